/- What EditBackUpto rests on, part 11: SCheckM, AwakeM, AwakeN, AwakeS, EMade1, Tags, FList, Own. -/
import Derived.Test.YtaehbgppfahdeaaGreatPkEditBackUpto10
import Derived.Maps.OwnSet
import Derived.Deep.Cut
import Derived.IntWalk
import Derived.BigQuiet
import Derived.Deep.QuietTactic
import Derived.Deep.AppendLies
import Derived.Deep.Onto
import Derived.OneCell
import Derived.Laws.OwnMore

namespace Go.Proofs.YtaehbgppfahdeaaGreat
open Go.RowKit Go.Maps
theorem look_right {f:FuncM} (h:(lookM f).1=0):formedR f=true:=by
 cases hr:formedR f
 ·have:=formed_no hr
  rw [look_formed h] at this
  cases this
 ·rfl
theorem right_blockR {f:FuncM} (h:(lookM f).1=0) {q:BlockM} (hq:q ∈ f.blocks):blockR f q=true:=by
 have hr:=look_right h
 unfold formedR at hr
 simp only [Bool.and_eq_true,List.all_eq_true] at hr
 exact hr.2.2.2 q hq
theorem look_id {f:FuncM} (h:(lookM f).1=0) {q:BlockM} (hq:q ∈ f.blocks) {x:InstrM} (hx:x ∈ q.code):makesS x.op=0 → x.id=-1:=by
 have hb:=right_blockR h hq
 unfold blockR at hb
 simp only [Bool.and_eq_true,List.all_eq_true] at hb
 have hi:=hb.2.1 x hx
 unfold instrR at hi
 simp only [Bool.and_eq_true,Bool.not_eq_true',Bool.and_eq_false_iff,beq_eq_false_iff_ne,bne_eq_false_iff_eq] at hi
 intro hm
 rcases hi.2.2.1 with h1 | h1
 ·exact absurd hm h1
 ·exact h1
theorem look_used {f:FuncM} (h:(lookM f).1=0) (u:Int × Int) (hu:u ∈ usesM f):u.1 ∈ (valuesM f).map (·.1):=by
 rw [← at_some]
 have he:=look_eq (look_formed h)
 rw [h,formed_eq (look_formed h)] at he
 cases hx:unknownB (valuesM f) (usesM f)
 ·unfold unknownB at hx
  rw [List.any_eq_false] at hx
  have:=hx u hu
  simpa [Option.isSome_iff_ne_none] using this
 ·rw [hx] at he
  simp at he
theorem vals_instr {f:FuncM} (h:(lookM f).1=0) {q:BlockM} (hq:q ∈ f.blocks) {x:InstrM} (hx:x ∈ q.code) (b i:Nat):(placedInstr b i x).map (·.1)=(valuesInstr x).map (·.1):=by
 unfold placedInstr valuesInstr
 rcases makes_cases x.op with hm | hm
 ·have:=look_id h hq hx hm
  rw [if_neg (by omega),if_neg (by omega)]
  rfl
 ·have hk:=(formed_keys (look_formed h)).1
  have hv:=formed_eq (look_formed h)
  have hmem:(x.id,makesS x.op) ∈ (lookM f).2:=by
   rw [hv]
   unfold valuesM valuesBlock
   refine List.mem_append.2 (.inr (List.mem_flatMap.2 ⟨q,hq,List.mem_append.2 (.inr (List.mem_flatMap.2 ⟨x,hx,?_⟩))⟩))
   unfold valuesInstr
   rw [if_pos hm]
   exact List.mem_singleton.2 rfl
  have h0:=(hk _ hmem).1
  rw [if_pos h0,if_pos hm]
  rfl
theorem vals_code {f:FuncM} (h:(lookM f).1=0) {q:BlockM} (hq:q ∈ f.blocks) (b:Nat):∀ i,i ≤ q.code.length → (placedCode b q.code i).map (·.1)=((q.code.take i).flatMap valuesInstr).map (·.1):=by
 intro i
 induction i with
 | zero => intro _;rfl
 | succ i ih =>
  intro hi
  have hx:q.code[i]?=some q.code[i]:=List.getElem?_eq_getElem (by omega)
  rw [placedCode,hx,List.map_append,ih (by omega),List.take_succ_eq_append_getElem (by omega),List.flatMap_append,List.map_append,vals_instr h hq (List.getElem_mem ..)]
  simp
theorem vals_block {f:FuncM} (h:(lookM f).1=0) {q:BlockM} (hq:q ∈ f.blocks) (b:Nat):(placedBlock b q).map (·.1)=(valuesBlock q).map (·.1):=by
 unfold placedBlock valuesBlock
 rw [List.map_append,List.map_append,vals_code h hq b _ (Nat.le_refl _),List.take_length]
 congr 1
 unfold placedPhis
 rw [List.map_map,List.map_map]
 rfl
theorem vals_blocks {f:FuncM} (h:(lookM f).1=0):∀ b,b ≤ f.blocks.length → (placedBlocks f.blocks b).map (·.1)=((f.blocks.take b).flatMap valuesBlock).map (·.1):=by
 intro b
 induction b with
 | zero => intro _;rfl
 | succ b ih =>
  intro hb
  have hx:f.blocks[b]?=some f.blocks[b]:=List.getElem?_eq_getElem (by omega)
  rw [placedBlocks,hx,List.map_append,ih (by omega),List.take_succ_eq_append_getElem (by omega),List.flatMap_append,List.map_append,vals_block h (List.getElem_mem ..)]
  simp
theorem vals_params (l:List Int):(placedParams l.length).map (·.1)=(paramDefs 0 l).map (·.1):=by
 have h1:∀ n,(placedParams n).map (·.1)=(List.range n).map fun (k:Nat) => (k:Int):=by
  intro n
  induction n with
  | zero => rfl
  | succ n ih => rw [placedParams,List.map_append,ih,List.range_succ,List.map_append];rfl
 have h2:∀ (l:List Int) (j:Nat),(paramDefs j l).map (·.1)=(List.range l.length).map fun (k:Nat) => ((j + k:Nat):Int):=by
  intro l
  induction l with
  | nil => intro j;rfl
  | cons a l ih =>
   intro j
   rw [paramDefs,List.map_cons,ih,List.length_cons,List.range_succ_eq_map,List.map_cons,List.map_map]
   congr 1
   apply List.map_congr_left
   intro k _
   simp only [Function.comp]
   omega
 rw [h1,h2]
 apply List.map_congr_left
 intro k _
 simp
theorem placed_ids {f:FuncM} (h:(lookM f).1=0):(placedM f).map (·.1)=(valuesM f).map (·.1):=by
 unfold placedM valuesM
 rw [List.map_append,List.map_append,vals_params,vals_blocks h _ (Nat.le_refl _),List.take_length]
theorem placed_nodup {f:FuncM} (h:(lookM f).1=0):((placedM f).map (·.1)).Nodup:=by
 rw [placed_ids h]
 have:=formed_nodup (look_formed h)
 rwa [formed_eq (look_formed h)] at this
theorem placedCode_mem {b:Nat} {xs:List InstrM} {d:Int × (Nat × Int)}:∀ i,d ∈ placedCode b xs i → d.2.1=b ∧ ∃ (j:Nat) (x:InstrM),xs[j]?=some x ∧ j < i ∧ d.1=x.id ∧ d.2.2=(j:Int) ∧ 0 ≤ x.id:=by
 intro i
 induction i with
 | zero => intro h;cases h
 | succ i ih =>
  intro h
  rw [placedCode] at h
  rcases List.mem_append.1 h with h | h
  ·obtain ⟨h1,j,x,h2,h3,h4⟩:=ih h
   exact ⟨h1,j,x,h2,by omega,h4⟩
  ·cases hx:xs[i]? with
   | none => rw [hx] at h;cases h
   | some x =>
    rw [hx] at h
    simp only [placedInstr] at h
    split at h
    ·rename_i h0
     rw [List.mem_singleton] at h
     subst h
     exact ⟨rfl,i,x,hx,by omega,rfl,rfl,h0⟩
    ·cases h
inductive MadeAt (f:FuncM) (id:Int):Nat → Int → Prop
 | param (h0:0 ≤ id) (h:id < f.params.length):MadeAt f id 0 (-1)
 | phi {b:Nat} {q:BlockM} {p:PhiM} (hq:f.blocks[b]?=some q) (hp:p ∈ q.phis) (h:p.id=id):MadeAt f id b (-1)
 | instr {b i:Nat} {q:BlockM} {x:InstrM} (hq:f.blocks[b]?=some q) (hx:q.code[i]?=some x) (h:x.id=id) (h0:0 ≤ id):MadeAt f id b (i:Int)
theorem placedBlocks_mem {f:FuncM} {d:Int × (Nat × Int)}:∀ n,d ∈ placedBlocks f.blocks n → MadeAt f d.1 d.2.1 d.2.2:=by
 intro n
 induction n with
 | zero => intro h;cases h
 | succ n ih =>
  intro h
  rw [placedBlocks] at h
  rcases List.mem_append.1 h with h | h
  ·exact ih h
  ·cases hq:f.blocks[n]? with
   | none => rw [hq] at h;cases h
   | some q =>
    rw [hq] at h
    simp only [placedBlock] at h
    rcases List.mem_append.1 h with h | h
    ·unfold placedPhis at h
     obtain ⟨p,hp,rfl⟩:=List.mem_map.1 h
     exact .phi hq hp rfl
    ·obtain ⟨h1,j,x,hx,_,h2,h3,h4⟩:=placedCode_mem _ h
     rw [h1,h3]
     exact .instr hq hx h2.symm (by rw [h2];exact h4)
theorem placedM_mem {f:FuncM} {id:Int} {b:Nat} {a:Int} (h:(id,(b,a)) ∈ placedM f):MadeAt f id b a:=by
 unfold placedM at h
 rcases List.mem_append.1 h with h | h
 ·have hp:∀ n,(id,(b,a)) ∈ placedParams n → b=0 ∧ a=-1 ∧ 0 ≤ id ∧ id < n:=by
   intro n
   induction n with
   | zero => intro h;cases h
   | succ n ih =>
    intro h
    rw [placedParams] at h
    rcases List.mem_append.1 h with h | h
    ·have:=ih h;omega
    ·rw [List.mem_singleton] at h
     injection h with h1 h2
     injection h2 with h2 h3
     omega
  obtain ⟨rfl,rfl,h0,h1⟩:=hp _ h
  exact .param h0 h1
 ·exact placedBlocks_mem _ h
theorem last_made {f:FuncM} {id:Int} {m:Nat × Int} (h:(placedM f).last id=some m):MadeAt f id m.1 m.2:=by
 unfold Placed.last at h
 rw [Option.map_eq_some_iff] at h
 obtain ⟨d,hd,rfl⟩:=h
 have h1:=List.mem_reverse.1 (List.mem_of_find?_eq_some hd)
 have h2:d.1=id:=by simpa using List.find?_some hd
 obtain ⟨x,y,z⟩:=d
 simp only at h2
 subst h2
 exact placedM_mem h1
theorem made_lt {f:FuncM} (h0:0 < f.blocks.length) {id:Int} {b:Nat} {a:Int} (h:MadeAt f id b a):b < f.blocks.length:=by
 cases h with
 | param => exact h0
 | phi hq => exact (List.getElem?_eq_some_iff.1 hq).1
 | instr hq => exact (List.getElem?_eq_some_iff.1 hq).1
theorem known_of {f:FuncM} (h:(lookM f).1=0) (hid:∀ u ∈ usesM f,I64 u.1) {u:Int × Int} (hu:u ∈ usesM f):Known f u.1:=by
 have hn:=(look_some_block h).1
 have hm:u.1 ∈ (placedM f).map (·.1):=by
  rw [placed_ids h]
  exact look_used h u hu
 refine ⟨hid u hu,?_⟩
 obtain ⟨d,hd,he⟩:=List.mem_map.1 hm
 obtain ⟨x,y,z⟩:=d
 simp only at he
 subst he
 have hl:(placedM f).last u.1=some (y,z):=by
  rw [Placed.last_first (placed_nodup h)]
  exact Placed.first_mem (placed_nodup h) hd
 exact ⟨y,z,hl,made_lt hn (last_made hl)⟩
theorem uses_known {f:FuncM} (h:(lookM f).1=0) (hid:∀ u ∈ usesM f,I64 u.1):UsesKnown f:=by
 have hall:=(formed_all (look_formed h)).1
 refine ⟨fun b q p i id hq hp hi => ?_,fun b q x id hq hx hi => ?_,fun b q hq ht => ?_⟩
 ·have hmq:=List.mem_of_getElem? hq
  have hl:=look_phi h q hmq p hp
  have hil:=(List.getElem?_eq_some_iff.1 hi).1
  obtain ⟨k,hk⟩:∃ k,p.fr[i]?=some k:=⟨_,List.getElem?_eq_getElem (by omega)⟩
  have hon:=(hall q hmq).1 p hp
  unfold phiB at hon
  simp only [Bool.and_eq_true] at hon
  have hr:=(once_nodup _ _ hon.2.2).2.1 k (List.mem_of_getElem? hk)
  obtain ⟨kn,rfl⟩:∃ kn:Nat,k=(kn:Int):=⟨k.toNat,by omega⟩
  obtain ⟨j,hj⟩:=List.getElem?_of_mem hp
  exact ⟨kn,f.blocks[kn]'(by omega),hk,List.getElem?_eq_getElem _,known_of h hid (each3.mem_phi hq hj hi)⟩
 ·obtain ⟨j,hj⟩:=List.getElem?_of_mem hx
  obtain ⟨m,hm⟩:=List.getElem?_of_mem hi
  have hf:=look_form h q (List.mem_of_getElem? hq) x hx
  have hml:=(List.getElem?_eq_some_iff.1 hm).1
  obtain ⟨t,ht⟩:∃ t,(takesS x.op)[m]?=some t:=⟨_,List.getElem?_eq_getElem (by omega)⟩
  exact known_of h hid (each3.mem_instr hq hj hm ht)
 ·rcases ht with ht | ht
  ·exact known_of h hid (each3.mem_term (u:=(q.term.val,2)) hq (by unfold usesTerm;rw [if_pos ht];exact List.mem_singleton.2 rfl))
  ·exact known_of h hid (each3.mem_term (u:=(q.term.val,0)) hq (by unfold usesTerm;rw [if_neg (by omega),if_pos ht];exact List.mem_singleton.2 rfl))
def aheadP (bs:List BlockM) (o:List Nat) (m:Nat × Int) (ub:Nat) (ua:Int):Prop:=(m.1=ub ∧ m.2 < ua) ∨ (m.1 ≠ ub ∧ OverP bs o m.1 ub)
def okP (f:FuncM) (o:List Nat) (id:Int) (ub:Nat) (ua:Int):Prop:=∀ m,(placedM f).last id=some m → aheadP f.blocks o m ub ua
structure UsesP (f:FuncM) (o:List Nat) (b:Nat) (q:BlockM):Prop where
 phi:∀ p ∈ q.phis,∀ (i:Nat) (id:Int) (fr:Nat) (q':BlockM),p.vals[i]?=some id → p.fr[i]?=some (fr:Int) → f.blocks[fr]?=some q' → okP f o id fr q'.code.length
 arg:∀ (i:Nat) (x:InstrM),q.code[i]?=some x → ∀ id ∈ x.args,okP f o id b i
 term:q.term.op=2 ∨ q.term.op=3 → okP f o q.term.val b q.code.length
def usesPR (f:FuncM) (o:List Nat) (b:Nat):Prop:=∀ q,f.blocks[b]?=some q → UsesP f o b q
def CheckIs (f:FuncM) (r:Int × Int):Prop :=
 ((lookM f).1 ≠ 0 ∧ r=(0,(lookM f).1)) ∨ ((lookM f).1=0 ∧ ∃ o,OrderIs f.blocks o ∧ FaultIs f.blocks.length (· ∈ o) (phisR f) (usesPR f o) r)
theorem CheckIs.one {f:FuncM} {r s:Int × Int} (h:CheckIs f r) (k:CheckIs f s):r=s:=by
 rcases h with ⟨h1,rfl⟩ | ⟨h1,o,ho,hf⟩
 ·rcases k with ⟨_,rfl⟩ | ⟨k1,_⟩
  ·rfl
  ·exact absurd k1 h1
 ·rcases k with ⟨k1,_⟩ | ⟨_,o',ho',kf⟩
  ·exact absurd h1 k1
  ·have:=ho.one ho'
   subst this
   exact hf.one (fun _ _ => Iff.rfl) (fun _ _ => Iff.rfl) (fun _ _ _ => Iff.rfl) kf
theorem okAt_iff {f:FuncM} {o:List Nat} {pl:Nat → Nat} {par:Nat → Option Nat} {F L:Nat → Int} (hn:0 < f.blocks.length) (hO:Ord (succM f.blocks) o pl) (hD:Done (succM f.blocks) o pl par) (hN:Numbered o par F L) (hall:∀ b,b < f.blocks.length → b ∈ o)
  {id:Int} {ub:Nat} {ua:Int} (hub:ub < f.blocks.length):okAt f F L id ub ua ↔ okP f o id ub ua:=by
 unfold okAt okP
 refine forall_congr' fun m => forall_congr' fun hm => ?_
 have hml:=made_lt hn (last_made hm)
 have hd:domB F L m.1 ub=true ↔ OverP f.blocks o m.1 ub:=by
  unfold domB
  rw [over_anc hO hD (hall ub hub),Bool.and_eq_true,decide_eq_true_iff,decide_eq_true_iff]
  exact hN.over m.1 (hall _ hml) ub (hall ub hub)
 unfold aheadB aheadP
 by_cases h:m.1=ub
 ·rw [if_pos h,decide_eq_true_iff]
  exact ⟨fun k => .inl ⟨h,k⟩,fun k => k.elim (fun k => k.2) (fun k => absurd h k.1)⟩
 ·rw [if_neg h,hd]
  exact ⟨fun k => .inr ⟨h,k⟩,fun k => k.elim (fun k => absurd k.1 h) (fun k => k.2)⟩
theorem usesR_iff {f:FuncM} {o:List Nat} {pl:Nat → Nat} {par:Nat → Option Nat} {F L:Nat → Int} (hn:0 < f.blocks.length) (hO:Ord (succM f.blocks) o pl) (hD:Done (succM f.blocks) o pl par) (hN:Numbered o par F L) (hall:∀ b,b < f.blocks.length → b ∈ o)
  {b:Nat} (hb:b < f.blocks.length):usesR f F L b ↔ usesPR f o b:=by
 refine forall_congr' fun q => forall_congr' fun hq => ?_
 have H:=@okAt_iff f o pl par F L hn hO hD hN hall
 constructor
 ·rintro ⟨h1,h2,h3⟩
  exact ⟨fun p hp i id fr q' a b c => (H (List.getElem?_eq_some_iff.1 c).1).1 (h1 p hp i id fr q' a b c),fun i x a id c => (H hb).1 (h2 i x a id c),fun a => (H hb).1 (h3 a)⟩
 ·rintro ⟨h1,h2,h3⟩
  exact ⟨fun p hp i id fr q' a b c => (H (List.getElem?_eq_some_iff.1 c).1).2 (h1 p hp i id fr q' a b c),fun i x a id c => (H hb).2 (h2 i x a id c),fun a => (H hb).2 (h3 a)⟩
theorem FaultIs.change {n:Nat} {R0 R1 R2 S2:Nat → Prop} (h2:(∀ b,b < n → R0 b) → ∀ b,b < n → (R2 b ↔ S2 b)) {r:Int × Int} (h:FaultIs n R0 R1 R2 r):FaultIs n R0 R1 S2 r:=by
 rcases h with h | h | ⟨a0,a1,b,⟨hb,hn,hl⟩,rfl⟩ | ⟨a0,a1,a2,rfl⟩
 ·exact .inl h
 ·exact .inr (.inl h)
 ·exact .inr (.inr (.inl ⟨a0,a1,b,⟨hb,fun h => hn ((h2 a0 b hb).2 h),fun a ha => (h2 a0 a (by omega)).1 (hl a ha)⟩,rfl⟩))
 ·exact .inr (.inr (.inr ⟨a0,a1,fun b hb => (h2 a0 b hb).1 (a2 b hb),rfl⟩))
def CheckPost (f:FuncM) (w:World) (e:Ending) (w':World):Prop:=∃ x y:Int,e=.returned (.tuple #[.int .i64 x,.int .i64 y]) ∧ CheckIs f (x,y) ∧ Below w.heap.size w w'
set_option maxRecDepth 100000 in
set_option maxHeartbeats 2000000 in
theorem sCheck_any (f:FuncM) (B:Nat) (pv bv:Value) (w:World) (hpv:Ints w B pv f.params) (hbv:BlocksR w B bv f.blocks) (hB:B ≤ w.heap.size) (hid:∀ u ∈ usesM f,I64 u.1) :
  Calls Tryz.prog 27 #[.agg #[pv,.int .i64 f.arrays,.int .i64 f.cells,bv]] w (CheckPost f w):=by
 have HP:=hideI hpv
 have HBL:=hideI hbv
 have HID:=hideI hid
 obtain ⟨P,pc,rfl,_⟩:=hpv
 obtain ⟨A,c,rfl,hbm,_⟩:=hbv
 have HB0:Hid (Below w.heap.size w (w.alloc (.cells #[.slice P f.params.length pc,.int .i64 f.arrays,.int .i64 f.cells,.slice A f.blocks.length c] 25))):=(Below.refl _ w).alloc (Nat.le_refl _) _
 have HF:=hideI (functionOf_any f B _ _ (w.alloc (.cells #[.slice P f.params.length pc,.int .i64 f.arrays,.int .i64 f.cells,.slice A f.blocks.length c] 25)) (HP.out.keeps (Keeps.of_below (HB0.out.mono hB))) (HBL.out.keeps (Keeps.of_below (HB0.out.mono hB))) (by simp;omega) HID.out)
 clear hid
 by_cases h0:(lookM f).1=0
 ·have H0:=hideI h0
  have hnb:=look_some_block h0
  have hn5:=hnb.2
  have hn0:=hnb.1
  clear h0 hnb
  go_enter Tryz.func27,Tryz.ntmps27
  go_wp2_with (first
   | (go_at_call 61;go_must (refine HF.out.mono ?_);rintro e w1 (⟨hbad,_⟩ | ⟨_,o,pl,par,capo,gF,gL,gp,M,F,L,rfl,hfs,hdone,hnum,hsf,hb1⟩);(exact absurd H0.out hbad);have HFS:=hideI hfs;have HDONE:=hideI hdone;have HNUM:=hideI hnum;have HSF:=hideI hsf;have HB1:=hideI (HB0.out.trans (hb1.mono (by simp)));clear hfs hdone hnum hsf hb1)
   | (go_at_call 62;go_must (refine (fault_any f o par w1.heap.size (.slice P f.params.length pc) (.slice A f.blocks.length c) gF gL gp M F L _ (HSF.out.kept ((Below.refl _ _).alloc (Nat.le_refl _) _)) (by simp) hn5 (uses_known H0.out HID.out) HNUM.out P _ _ rfl).mono ?_);rintro e w2 ⟨x,y,rfl,hfi,hb2⟩;have HFI:=hideI hfi;have HB2:=hideI ((HB1.out.alloc HB1.out.size _).trans (hb2.mono (by have:=HB1.out.size;simp;omega)));clear hfi hb2))
  go_ret2
  exact ⟨x,y,rfl,.inr ⟨H0.out,o,HFS.out.order,HFI.out.change (fun hall b hb => usesR_iff hn0 HFS.out.ord HDONE.out HNUM.out hall hb)⟩,HB2.out⟩
 ·have H0:=hideI h0
  have hb:((lookM f).1 != 0)=true:=by simpa using h0
  clear h0
  go_enter Tryz.func27,Tryz.ntmps27
  go_wp2_with (go_at_call 61;go_must (refine HF.out.mono ?_);rintro e w1 (⟨_,rfl,hb1⟩ | ⟨hbad,_⟩);rotate_left;(exact absurd hbad H0.out);have HB1:=hideI (HB0.out.trans (hb1.mono (by simp)));clear hb1)
  go_ret2
  exact ⟨_,_,rfl,.inl ⟨H0.out,rfl⟩,HB1.out.alloc HB1.out.size _⟩
end Go.Proofs.YtaehbgppfahdeaaGreat

namespace Go.Proofs.YtaehbgppfahdeaaGreat
open Go.RowKit Go.Maps
def awakeF:FuncM:=⟨[],0,0,[⟨[],[⟨1,0,[],5⟩],⟨3,0,[],0⟩⟩]⟩
theorem awake_look:lookM awakeF=(0,[(0,1)]):=by decide
theorem awake_reads (w W:World) (h0:W.heap[w.heap.size]?=some (.cells #[.int .i64 1,.int .i64 0,.slice none 0 0,.int .i64 5] 68 (0,0)))
  (h1:W.heap[w.heap.size + 1]?=some (.cells #[.slice none 0 0,.slice (some ⟨w.heap.size,0,none⟩) 1 1,.int .i64 3,.int .i64 0,.slice none 0 0,.int .i64 0] 62 (0,0))) :
  BlocksR W (w.heap.size + 2) (.slice (some ⟨w.heap.size + 1,0,none⟩) 1 1) awakeF.blocks:=by
 have c0:=row_cells h0 (rfl:W.heap[w.heap.size]?=W.heap[w.heap.size]?)
 have c1:=row_cells h1 (rfl:W.heap[w.heap.size + 1]?=W.heap[w.heap.size + 1]?)
 refine ⟨_,_,rfl,by decide,fun k q hk => ?_⟩
 have hq:k=0 ∧ q=⟨[],[⟨1,0,[],5⟩],⟨3,0,[],0⟩⟩:=by
  rcases k with _ | k
  ·simp [awakeF] at hk
   exact ⟨rfl,hk.symm⟩
  ·simp [awakeF] at hk
 obtain ⟨rfl,rfl⟩:=hq
 refine ⟨_,0,_,_,_,rfl,by omega,c1 _,c1 _,c1 _,c1 _,c1 _,c1 _,⟨none,0,rfl,by decide,fun k p hp => by simp at hp⟩,⟨_,_,rfl,by decide,fun k x hx => ?_⟩,Ints.nil _ _,by unfold I64;decide,by unfold I64;decide,by unfold I64;decide⟩
 have hx':k=0 ∧ x=⟨1,0,[],5⟩:=by
  rcases k with _ | k
  ·simp at hx
   exact ⟨rfl,hx.symm⟩
  ·simp at hx
 obtain ⟨rfl,rfl⟩:=hx'
 exact ⟨_,0,_,rfl,by omega,c0 _,c0 _,c0 _,c0 _,Ints.nil _ _,by unfold I64;decide,by unfold I64;decide,by unfold I64;decide⟩
end Go.Proofs.YtaehbgppfahdeaaGreat

namespace Go.Proofs.YtaehbgppfahdeaaGreat
open Go.RowKit Go.Maps
theorem awake_uses:∀ u ∈ usesM awakeF,I64 u.1:=by
 intro u hu
 simp [usesM,awakeF,usesBlock,usesInstr,usesTerm,takesS,shapeS] at hu
 subst hu
 unfold I64
 decide
def awakeMade (w:World):World:=(w.alloc (.cells #[.int .i64 1,.int .i64 0,.slice none 0 0,.int .i64 5] 68)).alloc (.cells #[.slice none 0 0,.slice (some ⟨w.heap.size,0,none⟩) 1 1,.int .i64 3,.int .i64 0,.slice none 0 0,.int .i64 0] 62)
theorem awakeMade_facts (w:World):BlocksR (awakeMade w) (w.heap.size + 2) (.slice (some ⟨w.heap.size + 1,0,none⟩) 1 1) awakeF.blocks ∧ (awakeMade w).heap.size=w.heap.size + 2 ∧ Below w.heap.size w (awakeMade w):=by
 have hsz:(awakeMade w).heap.size=w.heap.size + 2:=by unfold awakeMade;simp
 have hBl:Below w.heap.size w (awakeMade w):=by unfold awakeMade;exact (((Below.refl _ w).alloc (Nat.le_refl _) _).alloc (by simp) _)
 have h0:(awakeMade w).heap[w.heap.size]?=some (.cells #[.int .i64 1,.int .i64 0,.slice none 0 0,.int .i64 5] 68 (0,0)):=by
  unfold awakeMade
  rw [Below.heap_alloc _ _ _ (by simp)]
  exact heap_alloc_new w _
 have h1:(awakeMade w).heap[w.heap.size + 1]?=some (.cells #[.slice none 0 0,.slice (some ⟨w.heap.size,0,none⟩) 1 1,.int .i64 3,.int .i64 0,.slice none 0 0,.int .i64 0] 62 (0,0)):=by
  unfold awakeMade
  have:=heap_alloc_new (w.alloc (.cells #[.int .i64 1,.int .i64 0,.slice none 0 0,.int .i64 5] 68)) (.cells #[.slice none 0 0,.slice (some ⟨w.heap.size,0,none⟩) 1 1,.int .i64 3,.int .i64 0,.slice none 0 0,.int .i64 0] 62)
  simpa using this
 exact ⟨awake_reads w _ h0 h1,hsz,hBl⟩
theorem awake_orderIs:OrderIs awakeF.blocks [0]:=by
 refine ⟨[0],[],?_,rfl⟩
 have:succM awakeF.blocks 0=[]:=rfl
 rw [this]
 exact .nil _
end Go.Proofs.YtaehbgppfahdeaaGreat

namespace Go.Proofs.YtaehbgppfahdeaaGreat
open Go.RowKit Go.Maps
theorem awake_placed:placedM awakeF=[(0,(0,0))]:=by decide
theorem awake_checkIs:CheckIs awakeF (0,0):=by
 refine .inr ⟨congrArg Prod.fst awake_look,[0],awake_orderIs,.inr (.inr (.inr ⟨?_,?_,?_,rfl⟩))⟩
 ·intro b hb
  have:b=0:=by have:b < 1:=hb;omega
  subst this
  simp
 ·intro b hb q hq
  have:b=0:=by have:b < 1:=hb;omega
  subst this
  simp [awakeF] at hq
  subst hq
  rfl
 ·intro b hb q hq
  have:b=0:=by have:b < 1:=hb;omega
  subst this
  simp [awakeF] at hq
  subst hq
  refine ⟨fun p hp => by simp at hp,fun i x hx => ?_,fun _ => ?_⟩
  ·rcases i with _ | i
   ·simp at hx
    subst hx
    intro id hid
    simp at hid
   ·simp at hx
  ·intro m hm
   rw [awake_placed] at hm
   have:m=(0,0):=by
    have h2:Placed.last [(0,(0,0))] 0=some (0,0):=by decide
    exact (Option.some.inj (h2.symm.trans hm)).symm
   subst this
   exact .inl ⟨rfl,by simp⟩
end Go.Proofs.YtaehbgppfahdeaaGreat

namespace Go.Proofs.YtaehbgppfahdeaaGreat
open Go.RowKit Go.Maps
set_option maxRecDepth 100000 in
set_option maxHeartbeats 2000000 in
theorem made1_any (g j q0 qm M n k:Nat) (id first v:Int) (D:DataW Unit) (w:World) (hown:w.ownsMap Tryz.prog 3 (plainElem Tryz.prog 3) M n D) (hD:IsMap D) (hk:Maps.size D=k) (hn:n < 100000) (hi:I64 id) (hv:v=first + k) (hv0:0 ≤ v ∧ v ≤ 2000000)
  (hx:w.cell? ⟨g,j,none⟩=some (.int .i64 id)) (hf:w.frozen? ⟨g,j,none⟩=false) (h1:w.cell? ⟨q0,0,none⟩=some (.int .i64 first)) (h2:w.cell? ⟨qm,0,none⟩=some (.map (some M))) (hl:g < w.heap.size ∧ qm < w.heap.size ∧ g ≠ M ∧ qm ≠ M) :
  Calls Tryz.prog 169 #[.pointer (some ⟨g,j,none⟩),.pointer (some ⟨q0,0,none⟩),.pointer (some ⟨qm,0,none⟩)] w fun e w' => e=.returned (.tuple #[]) ∧ ∃ w1,w.grownBy w1 (some M) ∧ w1.ownsMap Tryz.prog 3 (plainElem Tryz.prog 3) M (n + 1) (D.put (.int .i64 id) (.lit (.int .i64 v))) ∧ w'=(w1.setCell ⟨g,j,none⟩ (.int .i64 v)).drew:=by
 have HOWN:=hideI hown
 have HI:=hideI hi
 have HV:Hid (I64 v):=hideI (by unfold I64;exact WalkArith.wf_i64 (by omega))
 have HVV:Hid (wrap64 (first + k)=v):=hideI (by unfold wrap64;omega)
 have HVW:Hid (IntKind.i64.wrap (first + k)=v):=hideI (by rw [IntWalk.i64_in _ (by omega)];omega)
 have hlen:=hown.len Tryz.underlying127
 rw [hk] at hlen
 have HX:Hid (w.cell? ⟨g,j,none⟩=some (.int .i64 id) ∧ w.cell? ⟨qm,0,none⟩=some (.map (some M))):=hideI ⟨hx,h2⟩
 have HFR:=hideI hf
 have HL:=hideI hl
 have HD:=hideI hD
 have hS0:w.cell? ⟨g,j,none⟩=some (.int .i64 id) ∧ w.cell? ⟨q0,0,none⟩=some (.int .i64 first) ∧ w.cell? ⟨qm,0,none⟩=some (.map (some M)) ∧ w.ownsMap Tryz.prog 3 (plainElem Tryz.prog 3) M n D:=⟨hx,h1,h2,hown⟩
 have HK:=hideI hk
 clear hown hD hk hi hv hv0 hx hf h1 h2 hl hlen
 go_enter Tryz.func169,Tryz.ntmps169
 go_upto_region 0 with fail
 refine wp_region_late (by kernel_rfl) (fun W' => W'.cell? ⟨g,j,none⟩=some (.int .i64 id) ∧ W'.cell? ⟨q0,0,none⟩=some (.int .i64 first) ∧ W'.cell? ⟨qm,0,none⟩=some (.map (some M)) ∧ W'.ownsMap Tryz.prog 3 (plainElem Tryz.prog 3) M n D) [8] ?_
 refine wpAnyT_take [8] (i:=0) (v:=?_) rfl (by kernel_rfl) (by kernel_rfl) (by kernel_rfl) (by kernel_rfl) (by kernel_rfl) (by kernel_rfl) (fun _ _ _ h => h) hS0 (Or.inl ⟨by rfl,?_⟩) ?_
 rotate_left
 ·(intro w hSw;go_split_ands;go_simp;try with_reducible rfl)
 try simp only [Act.put,List.setIfInBounds_toArray,List.set_cons_zero,List.set_cons_succ]
 refine wpAnyT_quiet (i:=1) (v:=?_) rfl (by kernel_rfl) (by kernel_rfl) (by kernel_rfl) (fun _ _ _ h => h) (Or.inl ⟨by rfl,?_⟩) ?_
 rotate_left
 ·(intro w;go_simp;try with_reducible rfl)
 try simp only [Act.put,List.setIfInBounds_toArray,List.set_cons_zero,List.set_cons_succ]
 refine wpAnyT_quiet (i:=2) (v:=?_) rfl (by kernel_rfl) (by kernel_rfl) (by kernel_rfl) (fun _ _ _ h => h) (Or.inl ⟨by rfl,?_⟩) ?_
 rotate_left
 ·(intro w;go_simp;try with_reducible rfl)
 try simp only [Act.put,List.setIfInBounds_toArray,List.set_cons_zero,List.set_cons_succ]
 refine wpAnyT_take [8] (i:=3) (v:=?_) rfl (by kernel_rfl) (by kernel_rfl) (by kernel_rfl) (by kernel_rfl) (by kernel_rfl) (by kernel_rfl) (fun _ _ _ h => h) hS0 (Or.inl ⟨by rfl,?_⟩) ?_
 rotate_left
 ·(intro w hSw;go_split_ands;go_simp;try with_reducible rfl)
 try simp only [Act.put,List.setIfInBounds_toArray,List.set_cons_zero,List.set_cons_succ]
 refine wpAnyT_take [8] (i:=4) (v:=?_) rfl (by kernel_rfl) (by kernel_rfl) (by kernel_rfl) (by kernel_rfl) (by kernel_rfl) (by kernel_rfl) (fun _ _ _ h => h) hS0 (Or.inl ⟨by rfl,?_⟩) ?_
 rotate_left
 ·(intro w hSw;go_split_ands;go_simp;try with_reducible rfl)
 try simp only [Act.put,List.setIfInBounds_toArray,List.set_cons_zero,List.set_cons_succ]
 refine wpAnyT_take [8] (i:=5) (v:=?_) rfl (by kernel_rfl) (by kernel_rfl) (by kernel_rfl) (by kernel_rfl) (by kernel_rfl) (by kernel_rfl) (fun _ _ _ h => h) hS0 (Or.inl ⟨by rfl,?_⟩) ?_
 rotate_left
 ·(intro w hSw;go_split_ands;go_simp;try with_reducible rfl)
 try simp only [Act.put,List.setIfInBounds_toArray,List.set_cons_zero,List.set_cons_succ]
 refine wpAnyT_take [8] (i:=6) (v:=?_) rfl (by kernel_rfl) (by kernel_rfl) (by kernel_rfl) (by kernel_rfl) (by kernel_rfl) (by kernel_rfl) (fun _ _ _ h => h) hS0 (Or.inl ⟨by rfl,?_⟩) ?_
 rotate_left
 ·(intro w hSw;have hlen:=World.ownsMap.len hSw.2.2.2 Tryz.underlying127 3;rw [HK.out] at hlen;clear hSw;go_simp;try with_reducible rfl)
 try simp only [Act.put,List.setIfInBounds_toArray,List.set_cons_zero,List.set_cons_succ]
 refine wpAnyT_quiet (i:=7) (v:=?_) rfl (by kernel_rfl) (by kernel_rfl) (by kernel_rfl) (fun _ _ _ h => h) (Or.inl ⟨by rfl,?_⟩) ?_
 rotate_left
 ·(intro w;go_simp;try with_reducible rfl)
 try simp only [Act.put,List.setIfInBounds_toArray,List.set_cons_zero,List.set_cons_succ]
 refine wpAnyT_ready (rs:=[8]) (by kernel_rfl) (by simp) ?_
 refine AllReadyT.cons rfl (fun K hK => ?_) ?_
 ·-- 8 mapUpdate
  obtain ⟨w1,hrun,hown1,hg1⟩:=World.ownsMap.update (t:=127) (World.ownsMap.drew HOWN.out) lawInt Tryz.underlying127 (by unfold maxLen;omega) (key:=.int .i64 id) (val:=.int .i64 v) (keyOf_int_mk Tryz.underlying3 HI.out) (plainElem_int Tryz.underlying3 HV.out)
  have hg1w:w.grownBy w1 (some M):=⟨hg1.os,hg1.tape,hg1.output,hg1.size,hg1.block⟩
  have HG1:=hideI hg1w
  have HO1:=hideI hown1
  first | rw [HVV.out] | rw [HVW.out]
  go_simp
  refine hK.out _ _ (fun h => absurd (by simp) h) ?_
  clear hK K
  try simp only [Act.put,List.setIfInBounds_toArray,List.set_cons_zero,List.set_cons_succ]
  refine wpAnyT_done (by kernel_rfl) ?_ _
  have hS1:w1.cell? ⟨g,j,none⟩=some (.int .i64 id) ∧ w1.cell? ⟨qm,0,none⟩=some (.map (some M)) ∧ w1.ownsMap Tryz.prog 3 (plainElem Tryz.prog 3) M (n + 1) (D.put (.int .i64 id) (.lit (.int .i64 v))):=⟨(HG1.out.cell_far ⟨g,j,none⟩ HL.out.1 (fun e => HL.out.2.2.1 (Option.some.inj e))).trans HX.out.1,(HG1.out.cell_far ⟨qm,0,none⟩ HL.out.2.1 (fun e => HL.out.2.2.2 (Option.some.inj e))).trans HX.out.2,HO1.out⟩
  have f1:w1.frozen? ⟨g,j,none⟩=false:=(HG1.out.frozen_far ⟨g,j,none⟩ HL.out.1 (fun e => HL.out.2.2.1 (Option.some.inj e))).trans HFR.out
  have HLK:Hid ((Instr.lookup 127 (.map (some M)) (.int .i64 id) false).run Tryz.prog w1.drew=.ok (.int .i64 v) w1.drew):=hideI (by obtain ⟨c,hrun2,hat,_⟩:=World.ownsMap.lookup_int (t:=127) (World.ownsMap.drew HO1.out) lawInt Tryz.underlying127 Tryz.underlying3 (zeroInt _) (keyOf_int_mk Tryz.underlying3 HI.out);rw [atKey_put_same HD.out (by trivial)] at hat;cases hat;exact hrun2)
  clear hS0 hrun hown1 hg1 hg1w
  have hS0:=hS1
  go_upto_region 1 with fail
  refine wp_region_late (by kernel_rfl) (fun W' => W'.cell? ⟨g,j,none⟩=some (.int .i64 id) ∧ W'.cell? ⟨qm,0,none⟩=some (.map (some M)) ∧ W'.ownsMap Tryz.prog 3 (plainElem Tryz.prog 3) M (n + 1) (D.put (.int .i64 id) (.lit (.int .i64 v)))) [7] ?_
  refine wpAnyT_quiet (i:=0) (v:=?_) rfl (by kernel_rfl) (by kernel_rfl) (by kernel_rfl) (fun _ _ _ h => h) (Or.inl ⟨by rfl,?_⟩) ?_
  rotate_left
  ·(intro w;go_simp;try with_reducible rfl)
  try simp only [Act.put,List.setIfInBounds_toArray,List.set_cons_zero,List.set_cons_succ]
  refine wpAnyT_take [7] (i:=1) (v:=?_) rfl (by kernel_rfl) (by kernel_rfl) (by kernel_rfl) (by kernel_rfl) (by kernel_rfl) (by kernel_rfl) (fun _ _ _ h => h) hS0 (Or.inl ⟨by rfl,?_⟩) ?_
  rotate_left
  ·(intro w hSw;go_split_ands;go_simp;try with_reducible rfl)
  try simp only [Act.put,List.setIfInBounds_toArray,List.set_cons_zero,List.set_cons_succ]
  refine wpAnyT_quiet (i:=2) (v:=?_) rfl (by kernel_rfl) (by kernel_rfl) (by kernel_rfl) (fun _ _ _ h => h) (Or.inl ⟨by rfl,?_⟩) ?_
  rotate_left
  ·(intro w;go_simp;try with_reducible rfl)
  try simp only [Act.put,List.setIfInBounds_toArray,List.set_cons_zero,List.set_cons_succ]
  refine wpAnyT_quiet (i:=3) (v:=?_) rfl (by kernel_rfl) (by kernel_rfl) (by kernel_rfl) (fun _ _ _ h => h) (Or.inl ⟨by rfl,?_⟩) ?_
  rotate_left
  ·(intro w;go_simp;try with_reducible rfl)
  try simp only [Act.put,List.setIfInBounds_toArray,List.set_cons_zero,List.set_cons_succ]
  refine wpAnyT_take [7] (i:=4) (v:=?_) rfl (by kernel_rfl) (by kernel_rfl) (by kernel_rfl) (by kernel_rfl) (by kernel_rfl) (by kernel_rfl) (fun _ _ _ h => h) hS0 (Or.inl ⟨by rfl,?_⟩) ?_
  rotate_left
  ·(intro w hSw;go_split_ands;go_simp;try with_reducible rfl)
  try simp only [Act.put,List.setIfInBounds_toArray,List.set_cons_zero,List.set_cons_succ]
  refine wpAnyT_ready (rs:=[5]) (by kernel_rfl) (by simp) ?_
  refine AllReadyT.cons rfl (fun K hK => ?_) ?_
  ·-- 5 lookup
   have hlk:(Instr.lookup 127 (.map (some M)) (.int .i64 id) false).run Tryz.prog w1.drew=.ok (.int .i64 v) w1.drew:=HLK.out
   go_simp
   refine hK.out _ _ (fun _ _ => hS1) ?_
   clear hK K
   try simp only [Act.put,List.setIfInBounds_toArray,List.set_cons_zero,List.set_cons_succ]
   refine wpAnyT_quiet (i:=6) (v:=?_) rfl (by kernel_rfl) (by kernel_rfl) (by kernel_rfl) (fun _ _ _ h => h) (Or.inl ⟨by rfl,?_⟩) ?_
   rotate_left
   ·(intro w;go_simp;try with_reducible rfl)
   try simp only [Act.put,List.setIfInBounds_toArray,List.set_cons_zero,List.set_cons_succ]
   refine wpAnyT_ready (rs:=[7]) (by kernel_rfl) (by simp) ?_
   refine AllReadyT.cons rfl (fun K hK => ?_) ?_
   ·-- 7 store
    go_simp
    refine hK.out _ _ (fun h => absurd (by simp) h) ?_
    clear hK K
    try simp only [Act.put,List.setIfInBounds_toArray,List.set_cons_zero,List.set_cons_succ]
    refine wpAnyT_done (by kernel_rfl) ?_ _
    go_wp2_with fail
    go_end0
    exact ⟨rfl,w1,HG1.out,HO1.out,rfl⟩
   ·exact AllReadyT.nil
  ·exact AllReadyT.nil
 ·exact AllReadyT.nil
end Go.Proofs.YtaehbgppfahdeaaGreat

namespace Go.Proofs.YtaehbgppfahdeaaGreat
open Go.RowKit
inductive Tag
 | params
 | blocks
 | phis (k:Nat)
 | code (k:Nat)
 | ends (k:Nat)
 | fr (k i:Nat)
 | vals (k i:Nat)
 | args (k i:Nat)
 deriving DecidableEq
structure RowD where
 elem:TypeId
 size:Nat
 len:Nat
 cells:List Value
def intsRow (xs:List Int):RowD:=⟨3,1,xs.length,xs.map (Value.int .i64)⟩
def cellsOf {α:Type} (g:Nat → α → List Value):Nat → List α → List Value
 | _,[] => []
 | i,a :: r => g i a ++ cellsOf g (i + 1) r
abbrev Vals:=Tag → Value
def phiCells (val:Vals) (k i:Nat) (p:PhiM):List Value:=[.int .i64 p.id,.int .i64 p.typ,val (.fr k i),val (.vals k i)]
def instrCells (val:Vals) (k i:Nat) (x:InstrM):List Value:=[.int .i64 x.op,.int .i64 x.id,val (.args k i),.int .i64 x.n]
def blockCells (val:Vals) (k:Nat) (b:BlockM):List Value:=[val (.phis k),val (.code k),.int .i64 b.term.op,.int .i64 b.term.val,val (.ends k),.int .i64 b.term.n]
def rowOf (f:FuncM) (val:Vals):Tag → Option RowD
 | .params => some (intsRow f.params)
 | .blocks => some ⟨62,6,f.blocks.length,cellsOf (blockCells val) 0 f.blocks⟩
 | .phis k => f.blocks[k]?.map fun b => ⟨76,4,b.phis.length,cellsOf (phiCells val k) 0 b.phis⟩
 | .code k => f.blocks[k]?.map fun b => ⟨68,4,b.code.length,cellsOf (instrCells val k) 0 b.code⟩
 | .ends k => f.blocks[k]?.map fun b => intsRow b.term.to
 | .fr k i => (f.blocks[k]?.bind fun b => b.phis[i]?).map fun p => intsRow p.fr
 | .vals k i => (f.blocks[k]?.bind fun b => b.phis[i]?).map fun p => intsRow p.vals
 | .args k i => (f.blocks[k]?.bind fun b => b.code[i]?).map fun x => intsRow x.args
section
variable {α:Type} {g g':Nat → α → List Value} {s:Nat}
theorem cellsOf_len (hs:∀ i a,(g i a).length=s):∀ (l:List α) (i:Nat),(cellsOf g i l).length=l.length * s:=by
 intro l
 induction l with
 | nil => intro i;simp [cellsOf]
 | cons a l ih => intro i;rw [cellsOf,List.length_append,hs,ih,List.length_cons];rw [Nat.add_mul];omega
theorem cellsOf_at (hs:∀ i a,(g i a).length=s):∀ (l:List α) (i k r:Nat) (a:α),l[k]?=some a → r < s → (cellsOf g i l)[k * s + r]?=(g (i + k) a)[r]?:=by
 intro l
 induction l with
 | nil => intro i k r a h;simp at h
 | cons b l ih =>
  intro i k r a h hr
  rw [cellsOf]
  cases k with
  | zero =>
   simp at h
   subst h
   rw [List.getElem?_append_left (by rw [hs];omega)]
   simp
  | succ k =>
   rw [List.getElem?_append_right (by rw [hs,Nat.add_mul];omega),hs]
   have:=ih (i + 1) k r a (by simpa using h) hr
   rw [show (k + 1) * s + r - s=k * s + r by rw [Nat.add_mul];omega,this]
   congr 2
   omega
theorem cellsOf_congr:∀ (l:List α) (i:Nat),(∀ k a,l[k]?=some a → g (i + k) a=g' (i + k) a) → cellsOf g i l=cellsOf g' i l:=by
 intro l
 induction l with
 | nil => intro i _;rfl
 | cons a l ih =>
  intro i h
  rw [cellsOf,cellsOf,ih (i + 1) (fun k b hb => by have:=h (k + 1) b (by simpa using hb);rwa [show i + (k + 1)=i + 1 + k by omega] at this)]
  rw [show g i a=g' i a from by simpa using h 0 a rfl]
theorem cellsOf_div (hs:∀ i a,(g i a).length=s) {l:List α} {j:Nat} {u:Value} (h:(cellsOf g 0 l)[j]?=some u):∃ k r a,j=k * s + r ∧ r < s ∧ l[k]?=some a ∧ (g k a)[r]?=some u:=by
 have hj:=(List.getElem?_eq_some_iff.1 h).1
 rw [cellsOf_len hs] at hj
 have hs0:0 < s:=Nat.pos_of_ne_zero fun e => by subst e;simp at hj
 have hk:j / s < l.length:=(Nat.div_lt_iff_lt_mul hs0).2 hj
 have hr:=Nat.mod_lt j hs0
 have e:j=j / s * s + j % s:=by rw [Nat.mul_comm];exact (Nat.div_add_mod j s).symm
 refine ⟨j / s,j % s,_,e,hr,List.getElem?_eq_getElem hk,?_⟩
 have h2:=cellsOf_at hs l 0 (j / s) (j % s) _ (List.getElem?_eq_getElem hk) hr
 rw [← e,h] at h2
 rw [Nat.zero_add] at h2
 exact h2.symm
end
def RowR (w:World) (B:Nat) (v:Value) (d:RowD):Prop :=
 ∃ A c,v=.slice A d.len c ∧ d.len ≤ 140737488351232 ∧ ∀ j u,d.cells[j]?=some u → ∃ b off,A=some ⟨b,off,none⟩ ∧ b < B ∧ w.cell? ⟨b,off + j,none⟩=some u
def RdF (w:World) (B:Nat) (f:FuncM) (val:Vals):Prop:=∀ t d,rowOf f val t=some d → RowR w B (val t) d
theorem RowR.keeps {w w':World} {B:Nat} {v:Value} {d:RowD} (h:RowR w B v d) (hk:Keeps B w w'):RowR w' B v d:=by
 obtain ⟨A,c,rfl,hm,hx⟩:=h
 refine ⟨A,c,rfl,hm,fun j u hu => ?_⟩
 obtain ⟨b,off,rfl,hb,hc⟩:=hx j u hu
 exact ⟨b,off,rfl,hb,(hk _ _ hb).trans hc⟩
theorem RdF.keeps {w w':World} {B:Nat} {f:FuncM} {val:Vals} (h:RdF w B f val) (hk:Keeps B w w'):RdF w' B f val:=fun t d hd => (h t d hd).keeps hk
theorem RowR.ints {w:World} {B:Nat} {v:Value} {xs:List Int} (h:RowR w B v (intsRow xs)):Ints w B v xs:=by
 obtain ⟨A,c,rfl,hm,hx⟩:=h
 refine ⟨A,c,rfl,hm,fun k hk => ?_⟩
 obtain ⟨b,off,hA,hb,hc⟩:=hx k (.int .i64 xs[k]) (by show (xs.map _)[k]?=_;rw [List.getElem?_map,List.getElem?_eq_getElem hk];rfl)
 exact ⟨b,off,hA,hb,by rw [hc,List.getElem?_eq_getElem hk];rfl⟩
theorem Ints.row {w:World} {B:Nat} {v:Value} {xs:List Int} (h:Ints w B v xs):RowR w B v (intsRow xs):=by
 obtain ⟨A,c,rfl,hm,hx⟩:=h
 refine ⟨A,c,rfl,hm,fun j u hu => ?_⟩
 have hu':(xs.map (Value.int .i64))[j]?=some u:=hu
 rw [List.getElem?_map] at hu'
 cases hj:xs[j]? with
 | none => rw [hj] at hu';cases hu'
 | some x =>
  rw [hj] at hu'
  cases hu'
  obtain ⟨b,off,hA,hb,hc⟩:=hx j (List.getElem?_eq_some_iff.1 hj).1
  exact ⟨b,off,hA,hb,by rw [hc,hj];rfl⟩
structure FnFits (f:FuncM):Prop where
 phi:∀ b ∈ f.blocks,∀ p ∈ b.phis,I64 p.id ∧ I64 p.typ
 code:∀ b ∈ f.blocks,∀ x ∈ b.code,I64 x.op ∧ I64 x.id ∧ I64 x.n
 term:∀ b ∈ f.blocks,I64 b.term.op ∧ I64 b.term.val ∧ I64 b.term.n
theorem phiCells_len (val:Vals) (k:Nat):∀ i p,(phiCells val k i p).length=4:=fun _ _ => rfl
theorem instrCells_len (val:Vals) (k:Nat):∀ i p,(instrCells val k i p).length=4:=fun _ _ => rfl
theorem blockCells_len (val:Vals):∀ i p,(blockCells val i p).length=6:=fun _ _ => rfl
section
variable {w:World} {B:Nat} {f:FuncM} {val:Vals}
theorem RdF.params (h:RdF w B f val):Ints w B (val .params) f.params:=(h .params _ rfl).ints
theorem RdF.phis (h:RdF w B f val) (hf:FnFits f) {k:Nat} {b:BlockM} (hb:f.blocks[k]?=some b):PhisR w B (val (.phis k)) b.phis:=by
 obtain ⟨A,c,hv,hm,hx⟩:=h (.phis k) _ (by simp only [rowOf,hb];rfl)
 rw [hv]
 refine ⟨A,c,rfl,hm,fun i p hp => ?_⟩
 have hat:∀ r u,r < 4 → (phiCells val k i p)[r]?=some u → ∃ b off,A=some ⟨b,off,none⟩ ∧ b < B ∧ w.cell? ⟨b,off + (i * 4 + r),none⟩=some u:=fun r u hr hu => hx (i * 4 + r) u (by
  have:=cellsOf_at (phiCells_len val k) b.phis 0 i r p hp hr
  rw [Nat.zero_add] at this
  exact this.trans hu)
 obtain ⟨g,off,rfl,hg,c0⟩:=hat 0 _ (by omega) rfl
 obtain ⟨_,_,e,_,c1⟩:=hat 1 _ (by omega) rfl
 cases e
 obtain ⟨_,_,e,_,c2⟩:=hat 2 _ (by omega) rfl
 cases e
 obtain ⟨_,_,e,_,c3⟩:=hat 3 _ (by omega) rfl
 cases e
 have hp2:(f.blocks[k]?.bind fun b => b.phis[i]?)=some p:=by rw [hb];exact hp
 exact ⟨g,off,_,_,rfl,hg,c0,c1,c2,c3,(h (.fr k i) _ (by simp only [rowOf,hp2];rfl)).ints,(h (.vals k i) _ (by simp only [rowOf,hp2];rfl)).ints,hf.phi b (List.mem_of_getElem? hb) p (List.mem_of_getElem? hp)⟩
theorem RdF.code (h:RdF w B f val) (hf:FnFits f) {k:Nat} {b:BlockM} (hb:f.blocks[k]?=some b):CodeR w B (val (.code k)) b.code:=by
 obtain ⟨A,c,hv,hm,hx⟩:=h (.code k) _ (by simp only [rowOf,hb];rfl)
 rw [hv]
 refine ⟨A,c,rfl,hm,fun i p hp => ?_⟩
 have hat:∀ r u,r < 4 → (instrCells val k i p)[r]?=some u → ∃ b off,A=some ⟨b,off,none⟩ ∧ b < B ∧ w.cell? ⟨b,off + (i * 4 + r),none⟩=some u:=fun r u hr hu => hx (i * 4 + r) u (by
  have:=cellsOf_at (instrCells_len val k) b.code 0 i r p hp hr
  rw [Nat.zero_add] at this
  exact this.trans hu)
 obtain ⟨g,off,rfl,hg,c0⟩:=hat 0 _ (by omega) rfl
 obtain ⟨_,_,e,_,c1⟩:=hat 1 _ (by omega) rfl
 cases e
 obtain ⟨_,_,e,_,c2⟩:=hat 2 _ (by omega) rfl
 cases e
 obtain ⟨_,_,e,_,c3⟩:=hat 3 _ (by omega) rfl
 cases e
 have hp2:(f.blocks[k]?.bind fun b => b.code[i]?)=some p:=by rw [hb];exact hp
 exact ⟨g,off,_,rfl,hg,c0,c1,c2,c3,(h (.args k i) _ (by simp only [rowOf,hp2];rfl)).ints,hf.code b (List.mem_of_getElem? hb) p (List.mem_of_getElem? hp)⟩
theorem RdF.blocks (h:RdF w B f val) (hf:FnFits f):BlocksR w B (val .blocks) f.blocks:=by
 obtain ⟨A,c,hv,hm,hx⟩:=h .blocks _ rfl
 rw [hv]
 refine ⟨A,c,rfl,hm,fun k b hb => ?_⟩
 have hat:∀ r u,r < 6 → (blockCells val k b)[r]?=some u → ∃ b off,A=some ⟨b,off,none⟩ ∧ b < B ∧ w.cell? ⟨b,off + (k * 6 + r),none⟩=some u:=fun r u hr hu => hx (k * 6 + r) u (by
  have:=cellsOf_at (blockCells_len val) f.blocks 0 k r b hb hr
  rw [Nat.zero_add] at this
  exact this.trans hu)
 obtain ⟨g,off,rfl,hg,c0⟩:=hat 0 _ (by omega) rfl
 obtain ⟨_,_,e,_,c1⟩:=hat 1 _ (by omega) rfl
 cases e
 obtain ⟨_,_,e,_,c2⟩:=hat 2 _ (by omega) rfl
 cases e
 obtain ⟨_,_,e,_,c3⟩:=hat 3 _ (by omega) rfl
 cases e
 obtain ⟨_,_,e,_,c4⟩:=hat 4 _ (by omega) rfl
 cases e
 obtain ⟨_,_,e,_,c5⟩:=hat 5 _ (by omega) rfl
 cases e
 have ht:=hf.term b (List.mem_of_getElem? hb)
 exact ⟨g,off,_,_,_,rfl,hg,c0,c1,c2,c3,c4,c5,h.phis hf hb,h.code hf hb,(h (.ends k) _ (by simp only [rowOf,hb];rfl)).ints,ht⟩
end
theorem BlocksR.fits {w:World} {B:Nat} {v:Value} {f:FuncM} (h:BlocksR w B v f.blocks):FnFits f:=by
 obtain ⟨A,c,_,_,hx⟩:=h
 refine ⟨fun b hb p hp => ?_,fun b hb x hx2 => ?_,fun b hb => ?_⟩
 ·obtain ⟨k,hk⟩:=List.getElem?_of_mem hb
  obtain ⟨_,_,_,_,_,_,_,_,_,_,_,_,_,hph,_⟩:=hx k b hk
  obtain ⟨_,_,_,_,hpx⟩:=hph
  obtain ⟨i,hi⟩:=List.getElem?_of_mem hp
  obtain ⟨_,_,_,_,_,_,_,_,_,_,_,_,r⟩:=hpx i p hi
  exact r
 ·obtain ⟨k,hk⟩:=List.getElem?_of_mem hb
  obtain ⟨_,_,_,_,_,_,_,_,_,_,_,_,_,_,hco,_⟩:=hx k b hk
  obtain ⟨_,_,_,_,hcx⟩:=hco
  obtain ⟨i,hi⟩:=List.getElem?_of_mem hx2
  obtain ⟨_,_,_,_,_,_,_,_,_,_,r⟩:=hcx i x hi
  exact r
 ·obtain ⟨k,hk⟩:=List.getElem?_of_mem hb
  obtain ⟨_,_,_,_,_,_,_,_,_,_,_,_,_,_,_,_,r⟩:=hx k b hk
  exact r
end Go.Proofs.YtaehbgppfahdeaaGreat

namespace Go.Proofs.YtaehbgppfahdeaaGreat
open Go.RowKit
theorem phi_info:(Tryz.prog.info? 76).map (fun i => (i.zero,i.size,i.bytes))=some (some (.agg #[.int .i64 0,.int .i64 0,.slice none 0 0,.slice none 0 0]),4,64):=by kernel_rfl
theorem instr_info:(Tryz.prog.info? 68).map (fun i => (i.zero,i.size,i.bytes))=some (some (.agg #[.int .i64 0,.int .i64 0,.slice none 0 0,.int .i64 0]),4,48):=by kernel_rfl
theorem block_info:(Tryz.prog.info? 62).map (fun i => (i.zero,i.size,i.bytes))=some (some (.agg #[.slice none 0 0,.slice none 0 0,.int .i64 0,.int .i64 0,.slice none 0 0,.int .i64 0]),6,96):=by kernel_rfl
def ListPost (e0:TypeId) (s:Nat) (d:RowD) (w:World) (e:Ending) (w':World):Prop :=
 ∃ v',e=.returned v' ∧ w'.ownsRow w.heap.size e0 s v' d.len d.cells ∧ Below w.heap.size w w'
set_option maxRecDepth 100000 in
set_option maxHeartbeats 1000000 in
theorem listInt_any (d:RowD) (B:Nat) (v:Value) (w:World) (hx:RowR w B v d) (hl:d.cells.length=d.len * 1) (hn:d.len ≤ 100000) (h1:∀ u ∈ d.cells,u.oneCell'=true) :
  Calls Tryz.prog 111 #[v] w (ListPost 3 1 d w):=by
 obtain ⟨A,c,rfl,hm,hcell⟩:=hx
 have HC:=hideI hcell
 have HL:=hideI hl
 have H1:=hideI h1
 obtain ⟨n,hN⟩:∃ n,n=d.len:=⟨_,rfl⟩
 have HN:=hideI hN
 rw [← hN] at hn hl ⊢
 obtain ⟨i0,hix,hz0,hz1,hz2⟩:=info_parts int_info
 clear hcell h1
 rcases Nat.eq_zero_or_pos n with rfl | hpos
 ·have hnil:d.cells=[]:=List.eq_nil_of_length_eq_zero (by omega)
  have HNIL:=hideI hnil
  have hpure:Sem.run Tryz.prog (pure (#[]:Array Value)) w=.ok #[] w:=rfl
  clear hl hN hnil
  cases A
  all_goals
   go_enter Tryz.func111,Tryz.ntmps111
   go_wp2
   go_ret
   exact ⟨.slice none 0 0,rfl,by rw [HNIL.out,← HN.out];exact World.ownsRow_nil _ _ _ _,Below.refl _ _⟩
 ·obtain ⟨u,hu⟩:∃ u,d.cells[0]?=some u:=⟨_,List.getElem?_eq_getElem (by omega)⟩
  obtain ⟨b,off,rfl,hb,_⟩:=HC.out 0 u hu
  have HR:Hid (∀ j u,d.cells[j]?=some u → w.cell? ((⟨b,off,none⟩:Addr).add j)=some u):=fun j u hu => by
   obtain ⟨b',off',e,_,h⟩:=HC.out j u hu
   cases e
   rw [Go.WideShapes.add_plain]
   exact h
  have HLN:Hid (d.cells.length=n * 1):=hl
  clear hu hl hN
  go_enter Tryz.func111,Tryz.ntmps111
  go_wp2_with (at_builtin;go_must (refine wpList_append_own _ rfl _ _ _ rfl w.heap.size 3 i0 _ 1 8 Tryz.underlying22 hix hz0 hz1 hz2 rfl (by decide) _ 0 [] rfl (World.ownsRow_nil _ _ _ _) ⟨b,off,none⟩ n c d.cells rfl HLN.out HR.out H1.out (by unfold maxLen;omega) (by omega) (Nat.le_refl _) ?_);intro v1 w1 hown1 hg1 _;have HO1:=hideI hown1;have HG1:=hideI hg1;clear hown1 hg1)
  go_ret
  refine ⟨v1,rfl,?_,⟨HG1.out.os,HG1.out.tape,HG1.out.output,HG1.out.size,fun k hk => HG1.out.block k hk (fun e => by simp [Value.ownBlock,Act.eval] at e)⟩⟩
  have:=HO1.out
  rw [Nat.zero_add,List.nil_append] at this
  rw [← HN.out]
  exact this
set_option maxRecDepth 100000 in
set_option maxHeartbeats 1000000 in
theorem listPhi_any (d:RowD) (B:Nat) (v:Value) (w:World) (hx:RowR w B v d) (hl:d.cells.length=d.len * 4) (hn:d.len ≤ 100000) (h1:∀ u ∈ d.cells,u.oneCell'=true) :
  Calls Tryz.prog 163 #[v] w (ListPost 76 4 d w):=by
 obtain ⟨A,c,rfl,hm,hcell⟩:=hx
 have HC:=hideI hcell
 have HL:=hideI hl
 have H1:=hideI h1
 obtain ⟨n,hN⟩:∃ n,n=d.len:=⟨_,rfl⟩
 have HN:=hideI hN
 rw [← hN] at hn hl ⊢
 obtain ⟨i0,hix,hz0,hz1,hz2⟩:=info_parts phi_info
 clear hcell h1
 rcases Nat.eq_zero_or_pos n with rfl | hpos
 ·have hnil:d.cells=[]:=List.eq_nil_of_length_eq_zero (by omega)
  have HNIL:=hideI hnil
  have hpure:Sem.run Tryz.prog (pure (#[]:Array Value)) w=.ok #[] w:=rfl
  clear hl hN hnil
  cases A
  all_goals
   go_enter Tryz.func163,Tryz.ntmps163
   go_wp2
   go_ret
   exact ⟨.slice none 0 0,rfl,by rw [HNIL.out,← HN.out];exact World.ownsRow_nil _ _ _ _,Below.refl _ _⟩
 ·obtain ⟨u,hu⟩:∃ u,d.cells[0]?=some u:=⟨_,List.getElem?_eq_getElem (by omega)⟩
  obtain ⟨b,off,rfl,hb,_⟩:=HC.out 0 u hu
  have HR:Hid (∀ j u,d.cells[j]?=some u → w.cell? ((⟨b,off,none⟩:Addr).add j)=some u):=fun j u hu => by
   obtain ⟨b',off',e,_,h⟩:=HC.out j u hu
   cases e
   rw [Go.WideShapes.add_plain]
   exact h
  have HLN:Hid (d.cells.length=n * 4):=hl
  clear hu hl hN
  go_enter Tryz.func163,Tryz.ntmps163
  go_wp2_with (at_builtin;go_must (refine wpList_append_own _ rfl _ _ _ rfl w.heap.size 76 i0 _ 4 64 Tryz.underlying57 hix hz0 hz1 hz2 rfl (by decide) _ 0 [] rfl (World.ownsRow_nil _ _ _ _) ⟨b,off,none⟩ n c d.cells rfl HLN.out HR.out H1.out (by unfold maxLen;omega) (by omega) (Nat.le_refl _) ?_);intro v1 w1 hown1 hg1 _;have HO1:=hideI hown1;have HG1:=hideI hg1;clear hown1 hg1)
  go_ret
  refine ⟨v1,rfl,?_,⟨HG1.out.os,HG1.out.tape,HG1.out.output,HG1.out.size,fun k hk => HG1.out.block k hk (fun e => by simp [Value.ownBlock,Act.eval] at e)⟩⟩
  have:=HO1.out
  rw [Nat.zero_add,List.nil_append] at this
  rw [← HN.out]
  exact this
set_option maxRecDepth 100000 in
set_option maxHeartbeats 1000000 in
theorem listInstr_any (d:RowD) (B:Nat) (v:Value) (w:World) (hx:RowR w B v d) (hl:d.cells.length=d.len * 4) (hn:d.len ≤ 100000) (h1:∀ u ∈ d.cells,u.oneCell'=true) :
  Calls Tryz.prog 164 #[v] w (ListPost 68 4 d w):=by
 obtain ⟨A,c,rfl,hm,hcell⟩:=hx
 have HC:=hideI hcell
 have HL:=hideI hl
 have H1:=hideI h1
 obtain ⟨n,hN⟩:∃ n,n=d.len:=⟨_,rfl⟩
 have HN:=hideI hN
 rw [← hN] at hn hl ⊢
 obtain ⟨i0,hix,hz0,hz1,hz2⟩:=info_parts instr_info
 clear hcell h1
 rcases Nat.eq_zero_or_pos n with rfl | hpos
 ·have hnil:d.cells=[]:=List.eq_nil_of_length_eq_zero (by omega)
  have HNIL:=hideI hnil
  have hpure:Sem.run Tryz.prog (pure (#[]:Array Value)) w=.ok #[] w:=rfl
  clear hl hN hnil
  cases A
  all_goals
   go_enter Tryz.func164,Tryz.ntmps164
   go_wp2
   go_ret
   exact ⟨.slice none 0 0,rfl,by rw [HNIL.out,← HN.out];exact World.ownsRow_nil _ _ _ _,Below.refl _ _⟩
 ·obtain ⟨u,hu⟩:∃ u,d.cells[0]?=some u:=⟨_,List.getElem?_eq_getElem (by omega)⟩
  obtain ⟨b,off,rfl,hb,_⟩:=HC.out 0 u hu
  have HR:Hid (∀ j u,d.cells[j]?=some u → w.cell? ((⟨b,off,none⟩:Addr).add j)=some u):=fun j u hu => by
   obtain ⟨b',off',e,_,h⟩:=HC.out j u hu
   cases e
   rw [Go.WideShapes.add_plain]
   exact h
  have HLN:Hid (d.cells.length=n * 4):=hl
  clear hu hl hN
  go_enter Tryz.func164,Tryz.ntmps164
  go_wp2_with (at_builtin;go_must (refine wpList_append_own _ rfl _ _ _ rfl w.heap.size 68 i0 _ 4 48 Tryz.underlying58 hix hz0 hz1 hz2 rfl (by decide) _ 0 [] rfl (World.ownsRow_nil _ _ _ _) ⟨b,off,none⟩ n c d.cells rfl HLN.out HR.out H1.out (by unfold maxLen;omega) (by omega) (Nat.le_refl _) ?_);intro v1 w1 hown1 hg1 _;have HO1:=hideI hown1;have HG1:=hideI hg1;clear hown1 hg1)
  go_ret
  refine ⟨v1,rfl,?_,⟨HG1.out.os,HG1.out.tape,HG1.out.output,HG1.out.size,fun k hk => HG1.out.block k hk (fun e => by simp [Value.ownBlock,Act.eval] at e)⟩⟩
  have:=HO1.out
  rw [Nat.zero_add,List.nil_append] at this
  rw [← HN.out]
  exact this
set_option maxRecDepth 100000 in
set_option maxHeartbeats 1000000 in
theorem listBlock_any (d:RowD) (B:Nat) (v:Value) (w:World) (hx:RowR w B v d) (hl:d.cells.length=d.len * 6) (hn:d.len ≤ 100000) (h1:∀ u ∈ d.cells,u.oneCell'=true) :
  Calls Tryz.prog 112 #[v] w (ListPost 62 6 d w):=by
 obtain ⟨A,c,rfl,hm,hcell⟩:=hx
 have HC:=hideI hcell
 have HL:=hideI hl
 have H1:=hideI h1
 obtain ⟨n,hN⟩:∃ n,n=d.len:=⟨_,rfl⟩
 have HN:=hideI hN
 rw [← hN] at hn hl ⊢
 obtain ⟨i0,hix,hz0,hz1,hz2⟩:=info_parts block_info
 clear hcell h1
 rcases Nat.eq_zero_or_pos n with rfl | hpos
 ·have hnil:d.cells=[]:=List.eq_nil_of_length_eq_zero (by omega)
  have HNIL:=hideI hnil
  have hpure:Sem.run Tryz.prog (pure (#[]:Array Value)) w=.ok #[] w:=rfl
  clear hl hN hnil
  cases A
  all_goals
   go_enter Tryz.func112,Tryz.ntmps112
   go_wp2
   go_ret
   exact ⟨.slice none 0 0,rfl,by rw [HNIL.out,← HN.out];exact World.ownsRow_nil _ _ _ _,Below.refl _ _⟩
 ·obtain ⟨u,hu⟩:∃ u,d.cells[0]?=some u:=⟨_,List.getElem?_eq_getElem (by omega)⟩
  obtain ⟨b,off,rfl,hb,_⟩:=HC.out 0 u hu
  have HR:Hid (∀ j u,d.cells[j]?=some u → w.cell? ((⟨b,off,none⟩:Addr).add j)=some u):=fun j u hu => by
   obtain ⟨b',off',e,_,h⟩:=HC.out j u hu
   cases e
   rw [Go.WideShapes.add_plain]
   exact h
  have HLN:Hid (d.cells.length=n * 6):=hl
  clear hu hl hN
  go_enter Tryz.func112,Tryz.ntmps112
  go_wp2_with (at_builtin;go_must (refine wpList_append_own _ rfl _ _ _ rfl w.heap.size 62 i0 _ 6 96 Tryz.underlying23 hix hz0 hz1 hz2 rfl (by decide) _ 0 [] rfl (World.ownsRow_nil _ _ _ _) ⟨b,off,none⟩ n c d.cells rfl HLN.out HR.out H1.out (by unfold maxLen;omega) (by omega) (Nat.le_refl _) ?_);intro v1 w1 hown1 hg1 _;have HO1:=hideI hown1;have HG1:=hideI hg1;clear hown1 hg1)
  go_ret
  refine ⟨v1,rfl,?_,⟨HG1.out.os,HG1.out.tape,HG1.out.output,HG1.out.size,fun k hk => HG1.out.block k hk (fun e => by simp [Value.ownBlock,Act.eval] at e)⟩⟩
  have:=HO1.out
  rw [Nat.zero_add,List.nil_append] at this
  rw [← HN.out]
  exact this
end Go.Proofs.YtaehbgppfahdeaaGreat

namespace Go.Proofs.YtaehbgppfahdeaaGreat
open Go.RowKit
def ListPost' (e0:TypeId) (s:Nat) (d:RowD) (w:World) (e:Ending) (w':World):Prop :=
 ∃ A c,e=.returned (.slice A d.len c) ∧ w'.ownsRow w.heap.size e0 s (.slice A d.len c) d.len d.cells ∧ Below w.heap.size w w'
theorem ListPost.form {e0:TypeId} {s:Nat} {d:RowD} {w w':World} {e:Ending} (h:ListPost e0 s d w e w'):ListPost' e0 s d w e w':=by
 obtain ⟨v,rfl,hown,hb⟩:=h
 rcases hown.2 with ⟨hv,h0⟩ | ⟨g,cap,cur,hv,_⟩
 ·exact ⟨none,0,by rw [hv,h0],by rw [h0] at hown ⊢;rw [← hv];exact hown,hb⟩
 ·exact ⟨_,_,by rw [hv],by rw [← hv];exact hown,hb⟩
theorem free_row' {w w':World} {g:Nat} {cs:Array Value} {t:TypeId} (h:w.heap[g]?=some (.cells cs t (0,0))) (hk:w'.heap[g]?=w.heap[g]?):∀ o,w'.frozen? ⟨g,o,none⟩=false:=by
 intro o
 simp [World.frozen?,hk,h]
def upd {α:Type} (g:Tag → α) (t0:Tag) (a:α):Tag → α:=fun t => if t=t0 then a else g t
theorem upd_same {α:Type} (g:Tag → α) (t0:Tag) (a:α):upd g t0 a t0=a:=by unfold upd;rw [if_pos rfl]
theorem upd_ne {α:Type} (g:Tag → α) {t0 t:Tag} (a:α) (h:t ≠ t0):upd g t0 a t=g t:=by unfold upd;rw [if_neg h]
abbrev Rows:=Tag → Option RowD
structure OwnG (w:World) (base:Nat) (row:Rows) (val:Vals) (D:Tag → Prop):Prop where
 has:∀ t,D t → (row t).isSome=true
 rows:∀ t d,D t → row t=some d → w.ownsRow base d.elem d.size (val t) d.len d.cells
 apart:∀ t t' g,D t → D t' → (val t).ownBlock=some g → (val t').ownBlock=some g → t=t'
variable {w w1:World} {base:Nat} {row:Rows} {val:Vals} {D:Tag → Prop}
theorem OwnG.nothing (w:World) (base:Nat) (row:Rows) (val:Vals):OwnG w base row val (fun _ => False):=⟨fun _ h => h.elim,fun _ _ h => h.elim,fun _ _ _ h => h.elim⟩
theorem OwnG.lt (h:OwnG w base row val D) {t:Tag} {g:Nat} (ht:D t) (hg:(val t).ownBlock=some g):base ≤ g ∧ g < w.heap.size:=by
 obtain ⟨d,hd⟩:=Option.isSome_iff_exists.1 (h.has t ht)
 exact (h.rows t d ht hd).lt g hg
theorem OwnG.kept (h:OwnG w base row val D) (hk:∀ b,base ≤ b → b < w.heap.size → w1.heap[b]?=w.heap[b]?):OwnG w1 base row val D:=by
 refine ⟨h.has,fun t d ht hd => ?_,h.apart⟩
 have h0:=h.rows t d ht hd
 refine ⟨h0.1,?_⟩
 rcases h0.2 with h2 | ⟨g,cap,cur,hv,hb,hg,r⟩
 ·exact .inl h2
 ·exact .inr ⟨g,cap,cur,hv,hb,(hk g hb (Array.getElem?_eq_some_iff.1 hg).1).trans hg,r⟩
theorem OwnG.below (h:OwnG w base row val D) (hb:Below w.heap.size w w1):OwnG w1 base row val D:=h.kept fun b _ hl => hb.block b hl
theorem OwnG.other (h:OwnG w base row val D) {a:Addr} {u:Value} (ha:∀ t,D t → (val t).ownBlock ≠ some a.block):OwnG (w.setCell a u) base row val D :=
 ⟨h.has,fun t d ht hd => ownsRow_setCell_other (h.rows t d ht hd) (ha t ht) u,h.apart⟩
theorem OwnG.congr {row':Rows} {val':Vals} {D':Tag → Prop} (h:OwnG w base row val D) (hr:∀ t,D' t → row' t=row t) (hv:∀ t,D' t → val' t=val t) (hD:∀ t,D' t → D t):OwnG w base row' val' D' :=
 ⟨fun t ht => by rw [hr t ht];exact h.has t (hD t ht),fun t d ht hd => by rw [hv t ht];exact h.rows t d (hD t ht) (by rw [← hr t ht];exact hd),
  fun t t' g ht ht' h1 h2 => h.apart t t' g (hD t ht) (hD t' ht') (by rw [← hv t ht];exact h1) (by rw [← hv t' ht'];exact h2)⟩
theorem OwnG.add {t0:Tag} {d:RowD} {v:Value} (h:OwnG w base row val D) (hn:¬ D t0) (hb:Below w.heap.size w w1) (hown:w1.ownsRow w.heap.size d.elem d.size v d.len d.cells) (hbase:base ≤ w.heap.size) :
  OwnG w1 base (upd row t0 (some d)) (upd val t0 v) (fun t => D t ∨ t=t0):=by
 have h1:=h.below hb
 refine ⟨fun t ht => ?_,fun t d' ht hd => ?_,fun t t' g ht ht' e1 e2 => ?_⟩
 ·by_cases e:t=t0
  ·subst e;rw [upd_same];rfl
  ·rw [upd_ne _ _ e];exact h.has t (ht.resolve_right e)
 ·by_cases e:t=t0
  ·subst e
   rw [upd_same] at hd ⊢
   cases hd
   exact World.ownsRow.mono hown hbase
  ·rw [upd_ne _ _ e] at hd ⊢
   exact h1.rows t d' (ht.resolve_right e) hd
 ·by_cases e:t=t0
  ·by_cases e':t'=t0
   ·rw [e,e']
   ·subst e
    rw [upd_same] at e1
    rw [upd_ne _ _ e'] at e2
    have:=(hown.lt g e1).1
    have:=(h.lt (ht'.resolve_right e') e2).2
    omega
  ·by_cases e':t'=t0
   ·subst e'
    rw [upd_same] at e2
    rw [upd_ne _ _ e] at e1
    have:=(hown.lt g e2).1
    have:=(h.lt (ht.resolve_right e) e1).2
    omega
   ·rw [upd_ne _ _ e] at e1
    rw [upd_ne _ _ e'] at e2
    exact h.apart t t' g (ht.resolve_right e) (ht'.resolve_right e') e1 e2
theorem OwnG.set {tp:Tag} {d:RowD} {g n cap j:Nat} {u:Value} (h:OwnG w base row val D) (hp:D tp) (hd:row tp=some d) (hv:val tp=.slice (some ⟨g,0,none⟩) n cap) (hn:d.len=n) :
  OwnG (w.setCell ⟨g,j,none⟩ u) base (upd row tp (some { d with cells:=d.cells.set j u })) val D:=by
 have h0:=h.rows tp d hp hd
 rw [hv,hn] at h0
 have hs:=h0.stored j u
 have hg:(val tp).ownBlock=some g:=by rw [hv];rfl
 refine ⟨fun t ht => ?_,fun t d' ht hd' => ?_,h.apart⟩
 ·by_cases e:t=tp
  ·subst e;rw [upd_same];rfl
  ·rw [upd_ne _ _ e];exact h.has t ht
 ·by_cases e:t=tp
  ·subst e
   rw [upd_same] at hd'
   cases hd'
   rw [hv,hn]
   exact hs.1
  ·rw [upd_ne _ _ e] at hd'
   refine (h.rows t d' ht hd').kept hs.2 (.inr fun e2 => e (h.apart t tp g ht hp e2 hg))
theorem OwnG.cell {tp:Tag} {d:RowD} {g n cap j:Nat} (h:OwnG w base row val D) (hp:D tp) (hd:row tp=some d) (hv:val tp=.slice (some ⟨g,0,none⟩) n cap) (hn:d.len=n) (hj:j < n * d.size) :
  w.cell? ⟨g,j,none⟩=d.cells[j]? ∧ w.frozen? ⟨g,j,none⟩=false:=by
 have h0:=h.rows tp d hp hd
 rw [hv,hn] at h0
 exact ⟨World.ownsRow.cellAt h0 j hj,World.ownsRow.frozenAt h0 j⟩
theorem OwnG.slice {tp:Tag} {d:RowD} (h:OwnG w base row val D) (hp:D tp) (hd:row tp=some d) (h0:0 < d.len):∃ g cap,val tp=.slice (some ⟨g,0,none⟩) d.len cap ∧ base ≤ g ∧ g < w.heap.size :=
 (h.rows tp d hp hd).form h0
def blkOf:Tag → Option Nat
 | .params => none
 | .blocks => none
 | .phis k => some k
 | .code k => some k
 | .ends k => some k
 | .fr k _ => some k
 | .vals k _ => some k
 | .args k _ => some k
section
variable {α:Type} {g g':Nat → α → List Value} {s:Nat}
theorem cellsOf_set (hs:∀ i a,(g i a).length=s) (hs':∀ i a,(g' i a).length=s) {l:List α} {i r:Nat} {u:Value} (_hi:i < l.length) (hr:r < s) (h1:∀ k a,l[k]?=some a → k ≠ i → g' k a=g k a) (h2:∀ a,l[i]?=some a → g' i a=(g i a).set r u) :
  (cellsOf g 0 l).set (i * s + r) u=cellsOf g' 0 l:=by
 apply List.ext_getElem?
 intro j
 by_cases hj:j < l.length * s
 ·have hs0:0 < s:=by omega
  have hk:j / s < l.length:=(Nat.div_lt_iff_lt_mul hs0).2 hj
  have hm:=Nat.mod_lt j hs0
  have e:j=j / s * s + j % s:=by rw [Nat.mul_comm];exact (Nat.div_add_mod j s).symm
  obtain ⟨a,ha⟩:∃ a,l[j / s]?=some a:=⟨_,List.getElem?_eq_getElem hk⟩
  have c1:=cellsOf_at hs l 0 (j / s) (j % s) _ ha hm
  have c2:=cellsOf_at hs' l 0 (j / s) (j % s) _ ha hm
  rw [← e,Nat.zero_add] at c1 c2
  rw [c2]
  by_cases ek:j / s=i
  ·rw [ek] at ha c1 ⊢
   rw [h2 _ ha]
   by_cases er:j % s=r
   ·have ej:j=i * s + r:=by rw [← ek,← er];exact e
    rw [ej,List.getElem?_set_self (by rw [cellsOf_len hs];rw [← ej];exact hj),← ej,er,List.getElem?_set_self (by rw [hs];exact hr)]
   ·have hne:i * s + r ≠ j:=fun e2 => er (by rw [← e2,Nat.add_comm,Nat.add_mul_mod_self_right];exact Nat.mod_eq_of_lt hr)
    rw [List.getElem?_set_ne hne,List.getElem?_set_ne (fun e2 => er e2.symm)]
    exact c1
  ·have hne:i * s + r ≠ j:=fun e2 => ek (by rw [← e2,Nat.add_comm,Nat.add_mul_div_right _ _ hs0,Nat.div_eq_of_lt hr,Nat.zero_add])
   rw [List.getElem?_set_ne hne,c1,h1 _ _ ha ek]
 ·rw [List.getElem?_eq_none (by rw [List.length_set,cellsOf_len hs];omega),List.getElem?_eq_none (by rw [cellsOf_len hs'];omega)]
end
theorem OwnG.grow {w w1:World} {base:Nat} {row:Rows} {val:Vals} {D:Tag → Prop} {t0:Tag} {d:RowD} {v:Value} {g1:Nat} (h:OwnG w base row val D) (ht0:D t0) (hown:w1.ownsRow base d.elem d.size v d.len d.cells) (hg:w.grownBy w1 (val t0).ownBlock)
  (hv:v.ownBlock=some g1) (hor:(val t0).ownBlock=some g1 ∨ g1=w.heap.size):OwnG w1 base (upd row t0 (some d)) (upd val t0 v) D:=by
 refine ⟨fun t ht => ?_,fun t d' ht hd => ?_,fun t t' g ht ht' e1 e2 => ?_⟩
 ·by_cases e:t=t0
  ·subst e;rw [upd_same];rfl
  ·rw [upd_ne _ _ e];exact h.has t ht
 ·by_cases e:t=t0
  ·subst e;rw [upd_same] at hd ⊢;cases hd;exact hown
  ·rw [upd_ne _ _ e] at hd ⊢
   cases ho:(val t).ownBlock with
   | none => exact (h.rows t d' ht hd).kept hg (.inl ho)
   | some b => exact (h.rows t d' ht hd).kept hg (.inr fun e2 => e (h.apart t t0 b ht ht0 ho (e2.symm.trans ho)))
 ·by_cases e:t=t0
  ·by_cases e':t'=t0
   ·rw [e,e']
   ·subst e
    rw [upd_same,hv] at e1
    rw [upd_ne _ _ e'] at e2
    cases e1
    rcases hor with h1 | h1
    ·exact h.apart t t' _ ht0 ht' h1 e2
    ·have:=(h.lt ht' e2).2;omega
  ·by_cases e':t'=t0
   ·subst e'
    rw [upd_same,hv] at e2
    rw [upd_ne _ _ e] at e1
    cases e2
    rcases hor with h1 | h1
    ·exact h.apart t t' _ ht ht0 e1 h1
    ·have:=(h.lt ht e1).2;omega
   ·rw [upd_ne _ _ e] at e1
    rw [upd_ne _ _ e'] at e2
    exact h.apart t t' g ht ht' e1 e2
end Go.Proofs.YtaehbgppfahdeaaGreat
