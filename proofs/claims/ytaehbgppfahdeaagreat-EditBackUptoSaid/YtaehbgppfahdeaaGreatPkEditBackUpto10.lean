/- What EditBackUpto rests on, part 10: RefCheck, RWithout, DOverM. -/
import Derived.Test.YtaehbgppfahdeaaGreatPkEditBackUpto9
import Derived.IntWalk
import Derived.Deep.RegionHeld3
import Derived.Deep.LoopGhost
import Derived.ArgAppend

namespace Go.Proofs.YtaehbgppfahdeaaGreat
open Go.RowKit
def Found (xs:List Int) (n r:Int):Prop:=(r=-1 ∧ n ∉ xs) ∨ ∃ k:Nat,r=k ∧ xs[k]?=some n
def FindPost (xs:List Int) (n:Int) (w:World) (e:Ending) (w':World):Prop:=∃ r,e=.returned (.int .i64 r) ∧ Found xs n r ∧ w=w'
def Lies (xs:List Int) (n:Int) (a b:Nat):Prop:=∀ j,xs[j]?=some n → a ≤ j ∧ j < b
theorem lies_up {xs:List Int} {n x:Int} {a b m:Nat} (hr:xs.Pairwise (· < ·)) (h:Lies xs n a b) (hm:xs[m]?=some x) (hx:x < n):Lies xs n (m + 1) b:=by
 intro j hj
 refine ⟨?_,(h j hj).2⟩
 obtain ⟨h1,rfl⟩:=List.getElem?_eq_some_iff.1 hm
 obtain ⟨h2,rfl⟩:=List.getElem?_eq_some_iff.1 hj
 rcases Nat.lt_trichotomy j m with hjm | rfl | hjm
 ·have:=List.pairwise_iff_getElem.1 hr j m h2 h1 hjm
  omega
 ·omega
 ·omega
theorem lies_down {xs:List Int} {n x:Int} {a b m:Nat} (hr:xs.Pairwise (· < ·)) (h:Lies xs n a b) (hm:xs[m]?=some x) (hx:n < x):Lies xs n a m:=by
 intro j hj
 refine ⟨(h j hj).1,?_⟩
 obtain ⟨h1,rfl⟩:=List.getElem?_eq_some_iff.1 hm
 obtain ⟨h2,rfl⟩:=List.getElem?_eq_some_iff.1 hj
 rcases Nat.lt_trichotomy j m with hjm | rfl | hjm
 ·omega
 ·omega
 ·have:=List.pairwise_iff_getElem.1 hr m j h1 h2 hjm
  omega
set_option maxHeartbeats 800000 in
theorem find_any (w:World) (B:Nat) (v:Value) (xs:List Int) (n:Int) (hx:Ints w B v xs) (hr:xs.Pairwise (· < ·)) (hl:xs.length ≤ 100000) :
  Calls Tryz.prog 81 #[v,.int .i64 n] w (FindPost xs n w):=by
 obtain ⟨A,c,rfl,hm,hx⟩:=hx
 have Hx:=hideI hx
 have HR:=hideI hr
 clear hx hr
 go_enter Tryz.func81,Tryz.ntmps81
 go_wp2
 go_loopw [5,6] (fun i o wr => ∃ a b:Nat,a ≤ b ∧ b ≤ xs.length ∧ i=.int .i64 a ∧ o=.int .i64 b ∧ Lies xs n a b ∧ wr=w) (fun i o _ => (intOf o).toNat - (intOf i).toNat)
 case atStart =>
  refine ⟨0,xs.length,Nat.zero_le _,Nat.le_refl _,rfl,rfl,?_,rfl⟩
  intro j hj
  obtain ⟨h,_⟩:=List.getElem?_eq_some_iff.1 hj
  exact ⟨Nat.zero_le _,h⟩
 case round =>
  obtain ⟨a,b,hab,hb,rfl,rfl,hL,rfl⟩:=hrel
  have HL:=hideI hL
  clear hL
  by_cases hlt:a < b
  ·obtain ⟨m,hm1⟩:∃ m,m=(a + b) / 2:=⟨_,rfl⟩
   have hm2:a ≤ m ∧ m < b:=by omega
   have hq:((a:Int) + (b:Int)).tdiv 2=(m:Int):=by rw [hm1,Int.tdiv_eq_ediv_of_nonneg (by omega)];omega
   clear hm1
   obtain ⟨g,off,rfl,hg,hc⟩:=Hx.out m (by omega)
   obtain ⟨x,hx⟩:∃ x,xs[m]?=some x:=⟨_,List.getElem?_eq_getElem (by omega)⟩
   rw [hx] at hc
   simp only [Option.getD_some] at hc
   have HX:=hideI hx
   clear hx
   cases he:x == n
   ·cases hs:decide (x < n)
    ·go_wp2
     go_roundw
     case rel => exact ⟨a,m,by omega,by omega,by go_num,by go_num,lies_down HR.out HL.out HX.out (by have h1:=of_decide_eq_false hs;have h2:x ≠ n:=(by simpa using he);omega),trivial⟩
     case measure => simp [intOf];omega
    ·go_wp2
     go_roundw
     case rel => exact ⟨m + 1,b,by omega,by omega,by go_num,by go_num,lies_up HR.out HL.out HX.out (of_decide_eq_true hs),trivial⟩
     case measure => simp [intOf];omega
   ·have hxn:x=n:=by simpa using he
    have HXN:=hideI hxn
    clear hxn
    go_wp2
    go_ret
    exact ⟨_,rfl,.inr ⟨m,rfl,by rw [HX.out,HXN.out]⟩,rfl⟩
  ·go_wp2
   go_ret
   refine ⟨_,rfl,.inl ⟨rfl,fun hn => ?_⟩,rfl⟩
   obtain ⟨j,hj⟩:=List.getElem?_of_mem hn
   have:=HL.out j hj
   omega
end Go.Proofs.YtaehbgppfahdeaaGreat
namespace Go.Proofs.YtaehbgppfahdeaaGreat
open Go.RowKit
theorem fits_eq {f:FuncM} {op n:Int} (h:isOp op=true):fitsR f (kindS op) n=fitsB f op n:=by
 unfold fitsR fitsB mostR withinB
 rcases op_cases op with h1 | h1 | h1
 ·rcases h1 with rfl | rfl | rfl | rfl | rfl | rfl | rfl | rfl | rfl | rfl | rfl | rfl | rfl <;> simp [kindS,shapeS] <;> (rw [Bool.eq_iff_iff];simp;omega)
 ·rcases h1 with rfl | rfl | rfl | rfl | rfl | rfl | rfl | rfl | rfl | rfl | rfl | rfl <;> simp [kindS,shapeS] <;> (rw [Bool.eq_iff_iff];simp;omega)
 ·unfold isOp at h
  rw [shapeS_none h1] at h
  cases h
def addsB (np:Nat):Defs → List (Int × Int) → Bool
 | _,[] => true
 | ds,d :: r => defB np ds d.1 && addsB np (ds ++ [d]) r
theorem adds_app (np:Nat):∀ (l r ds:List (Int × Int)),addsB np ds (l ++ r)=(addsB np ds l && addsB np (ds ++ l) r):=by
 intro l
 induction l with
 | nil => intro r ds;simp [addsB]
 | cons d l ih =>
  intro r ds
  simp only [List.cons_append,addsB,ih,List.append_assoc,Bool.and_assoc]
  rfl
theorem phis_adds (f:FuncM):∀ (l:List PhiM) (ds:Defs),phisStep f ds l=if l.all (phiB f) && addsB f.params.length ds (l.map fun p => (p.id,p.typ)) then some (ds ++ l.map fun p => (p.id,p.typ)) else none:=by
 intro l
 induction l with
 | nil => intro ds;simp [phisStep,addsB]
 | cons p l ih =>
  intro ds
  unfold phisStep phiStep addDef
  simp only [List.all_cons,List.map_cons,addsB]
  cases h1:phiB f p
  ·simp
  ·cases h2:defB f.params.length ds p.id
   ·simp
   ·simp only [if_pos,Option.bind_some,ih,Bool.true_and,List.append_assoc]
    rfl
theorem makes_cases (op:Int):makesS op=0 ∨ 0 < makesS op:=by
 unfold makesS
 rcases op_cases op with h1 | h1 | h1
 ·rcases h1 with rfl | rfl | rfl | rfl | rfl | rfl | rfl | rfl | rfl | rfl | rfl | rfl | rfl <;> simp [shapeS]
 ·rcases h1 with rfl | rfl | rfl | rfl | rfl | rfl | rfl | rfl | rfl | rfl | rfl | rfl <;> simp [shapeS]
 ·rw [shapeS_none h1];simp
theorem instr_adds (f:FuncM) (ds:Defs) (x:InstrM):instrStep f ds x=if instrR f x && addsB f.params.length ds (valuesInstr x) then some (ds ++ valuesInstr x) else none:=by
 unfold instrStep instrR valuesInstr instrB addDef
 cases h0:isOp x.op
 ·simp
 ·rw [fits_eq h0]
  cases h1:x.args.length == (takesS x.op).length
  ·simp
  ·cases h2:fitsB f x.op x.n
   ·simp
   ·rcases makes_cases x.op with h3 | h3
    ·rw [h3]
     by_cases h4:x.id=-1
     ·simp [h4,addsB]
     ·simp [h4]
    ·have h4:¬ makesS x.op=0:=by omega
     have h5:(makesS x.op == 0)=false:=by simpa using h4
     simp [h3,h4,h5,addsB]
theorem code_adds (f:FuncM):∀ (l:List InstrM) (ds:Defs),codeStep f ds l=if l.all (instrR f) && addsB f.params.length ds (l.flatMap valuesInstr) then some (ds ++ l.flatMap valuesInstr) else none:=by
 intro l
 induction l with
 | nil => intro ds;simp [codeStep,addsB]
 | cons p l ih =>
  intro ds
  unfold codeStep
  rw [instr_adds]
  simp only [List.all_cons,List.flatMap_cons,adds_app]
  cases h1:instrR f p
  ·simp
  ·cases h2:addsB f.params.length ds (valuesInstr p)
   ·simp
   ·simp only [Bool.true_and,if_pos,Option.bind_some,ih,List.append_assoc]
theorem block_adds (f:FuncM) (ds:Defs) (q:BlockM):blockStep f ds q=if blockR f q && addsB f.params.length ds (valuesBlock q) then some (ds ++ valuesBlock q) else none:=by
 unfold blockStep blockR valuesBlock
 rw [phis_adds,adds_app]
 cases h1:q.phis.all (phiB f)
 ·simp
 ·cases h2:addsB f.params.length ds (q.phis.map fun p => (p.id,p.typ))
  ·simp
  ·simp only [Bool.true_and,if_pos,Option.bind_some,code_adds]
   cases h3:q.code.all (instrR f)
   ·simp
   ·cases h4:addsB f.params.length (ds ++ q.phis.map fun p => (p.id,p.typ)) (q.code.flatMap valuesInstr)
    ·simp
    ·cases h5:termB f q.term <;> simp
theorem blocks_adds (f:FuncM):∀ (l:List BlockM) (ds:Defs),blocksStep f ds l=if l.all (blockR f) && addsB f.params.length ds (l.flatMap valuesBlock) then some (ds ++ l.flatMap valuesBlock) else none:=by
 intro l
 induction l with
 | nil => intro ds;simp [blocksStep,addsB]
 | cons p l ih =>
  intro ds
  unfold blocksStep
  rw [block_adds]
  simp only [List.all_cons,List.flatMap_cons,adds_app]
  cases h1:blockR f p
  ·simp
  ·cases h2:addsB f.params.length ds (valuesBlock p)
   ·simp
   ·simp only [Bool.true_and,if_pos,Option.bind_some,ih,List.append_assoc]
theorem formed_adds (f:FuncM):formedM f=if formedR f && addsB f.params.length (paramDefs 0 f.params) (f.blocks.flatMap valuesBlock) then some (valuesM f) else none:=by
 unfold formedM formedR headR valuesM
 rw [blocks_adds]
 cases h1:limitsB f
 ·simp
 ·cases h2:f.params.all isTypeB
  ·simp
  ·cases h3:(f.blocks.headD ⟨[],[],⟨0,0,[],0⟩⟩).phis.isEmpty
   ·simp
   ·simp
theorem def_iff {np:Nat} {ds:Defs} {id:Int}:defB np ds id=true ↔ id ∉ ds.map (·.1) ∧ (np:Int) ≤ id ∧ id < 1048576:=by
 unfold defB withinB
 simp only [Bool.and_eq_true,Bool.not_eq_true',decide_eq_true_eq]
 rw [← at_some]
 cases (ds.at id).isSome <;> simp <;> omega
theorem adds_iff {np:Nat}:∀ (l:List (Int × Int)) (ds:Defs),(ds.map (·.1)).Nodup → (addsB np ds l=true ↔ (∀ d ∈ l,(np:Int) ≤ d.1 ∧ d.1 < 1048576) ∧ ((ds ++ l).map (·.1)).Nodup):=by
 intro l
 induction l with
 | nil => intro ds h;simp [addsB,h]
 | cons d l ih =>
  intro ds h
  unfold addsB
  rw [Bool.and_eq_true,def_iff]
  have happ:ds ++ d :: l=(ds ++ [d]) ++ l:=by simp
  constructor
  ·rintro ⟨⟨h1,h2⟩,h3⟩
   have hn:((ds ++ [d]).map (·.1)).Nodup:=by
    rw [List.map_append,List.nodup_append]
    refine ⟨h,by simp,fun a ha b hb => ?_⟩
    simp at hb
    subst hb
    intro e
    subst e
    exact h1 ha
   obtain ⟨h4,h5⟩:=(ih _ hn).1 h3
   rw [happ]
   refine ⟨fun e he => ?_,h5⟩
   rcases List.mem_cons.1 he with rfl | he
   ·exact h2
   ·exact h4 e he
  ·rintro ⟨h1,h2⟩
   rw [happ] at h2
   have hn:((ds ++ [d]).map (·.1)).Nodup:=by
    rw [List.map_append] at h2
    exact (List.nodup_append.1 h2).1
   refine ⟨⟨?_,h1 d (List.mem_cons_self ..)⟩,(ih _ hn).2 ⟨fun e he => h1 e (List.mem_cons_of_mem _ he),h2⟩⟩
   rw [List.map_append,List.nodup_append] at hn
   exact fun hm => hn.2.2 _ hm d.1 (by simp) rfl
theorem idsOk_adds {f:FuncM}:addsB f.params.length (paramDefs 0 f.params) (f.blocks.flatMap valuesBlock)=true ↔ IdsOk f:=by
 rw [adds_iff _ _ (paramDefs_nodup _ _)]
 unfold IdsOk RangeTo
 have hv:valuesM f=paramDefs 0 f.params ++ f.blocks.flatMap valuesBlock:=rfl
 have hpl:=paramDefs_len f.params 0
 rw [← hv]
 refine and_congr ?_ Iff.rfl
 constructor
 ·intro h j d hj hd hp
  rw [hv,List.getElem?_append_right (by omega)] at hd
  exact h d (List.mem_of_getElem? hd)
 ·intro h d hd
  obtain ⟨i,hi⟩:=List.getElem?_of_mem hd
  have h2:(valuesM f)[f.params.length + i]?=some d:=by
   rw [hv,List.getElem?_append_right (by omega)]
   rw [hpl,Nat.add_sub_cancel_left]
   exact hi
  obtain ⟨h3,_⟩:=List.getElem?_eq_some_iff.1 h2
  exact h _ d h3 h2 (by omega)
theorem formed_no {f:FuncM} (h:formedR f=false):formedM f=none:=by rw [formed_adds,h];rfl
theorem formed_ids_no {f:FuncM} (h:¬ IdsOk f):formedM f=none:=by
 rw [formed_adds]
 cases ha:addsB f.params.length (paramDefs 0 f.params) (f.blocks.flatMap valuesBlock)
 ·simp
 ·exact absurd (idsOk_adds.1 ha) h
theorem formed_yes {f:FuncM} (h:formedR f=true) (h2:IdsOk f):formedM f=some (valuesM f):=by
 rw [formed_adds,h,idsOk_adds.2 h2]
 rfl
end Go.Proofs.YtaehbgppfahdeaaGreat
namespace Go.Proofs.YtaehbgppfahdeaaGreat
open Go.RowKit
theorem form_bd {f:FuncM} {ds:Defs} (h:formedM f=some ds):limitsB f=true:=by
 unfold formedM at h
 split at h
 ·rename_i hc
  simp only [Bool.and_eq_true] at hc
  exact hc.1.1
 ·cases h
theorem form_few {f:FuncM} {ds:Defs} (h:formedM f=some ds):Few f.blocks:=by
 have hb:=limits_bd (form_bd h)
 have h1:=right_blocks (by omega) f.blocks (formed_all h).1
 unfold Few
 omega
theorem form_form {f:FuncM} {ds:Defs} (h:formedM f=some ds):∀ b ∈ f.blocks,∀ x ∈ b.code,x.args.length=(takesS x.op).length:=by
 intro b hb x hx
 have h1:=((formed_all h).1 b hb).2 x hx
 unfold instrB at h1
 simp only [Bool.and_eq_true,beq_iff_eq] at h1
 exact h1.2.1
theorem form_phi {f:FuncM} {ds:Defs} (h:formedM f=some ds):∀ b ∈ f.blocks,∀ p ∈ b.phis,p.vals.length=p.fr.length:=by
 intro b hb x hx
 have h1:=((formed_all h).1 b hb).1 x hx
 unfold phiB at h1
 simp only [Bool.and_eq_true,beq_iff_eq] at h1
 exact h1.2.1
theorem form_fewv {f:FuncM} (h:limitsB f=true):FewV f:=by
 have hb:=limits_bd h
 exact ⟨hb.1,by unfold sizeM;omega⟩
theorem flatten_at:∀ (rows:List (List Int)),(∀ r ∈ rows,r.length=5) → ∀ (j i:Nat) (r:List Int),rows[j]?=some r → i < 5 → rows.flatten[j * 5 + i]?=r[i]?:=by
 intro rows
 induction rows with
 | nil => intro _ j i r h;simp at h
 | cons a l ih =>
  intro hl j i r h hi
  have ha:a.length=5:=hl a (List.mem_cons_self ..)
  cases j with
  | zero =>
   simp at h
   subst h
   rw [List.flatten_cons,List.getElem?_append_left (by omega)]
   simp
  | succ j =>
   rw [List.flatten_cons,List.getElem?_append_right (by omega)]
   have:=ih (fun r hr => hl r (List.mem_cons_of_mem _ hr)) j i r (by simpa using h) hi
   rw [← this]
   congr 1
   omega
theorem RU.read {w:World} {base:Nat} {v:Value} {us:List (Int × Int)} (h:RU w base v us) :
  ∃ A c,v=.slice A us.length c ∧ ∀ (j:Nat) (u:Int × Int),us[j]?=some u → ∃ g,A=some ⟨g,0,none⟩ ∧ g < w.heap.size ∧ w.cell? ⟨g,j * 5,none⟩=some (.int .i64 u.1) ∧ w.cell? ⟨g,j * 5 + 1,none⟩=some (.int .i64 u.2):=by
 obtain ⟨rows,hm,h5,h⟩:=h
 rcases Nat.eq_zero_or_pos us.length with h0 | h0
 ·have hv:us=[]:=List.eq_nil_of_length_eq_zero h0
  subst hv
  rcases h.2 with ⟨rfl,_⟩ | ⟨g,cap,cur,rfl,_⟩
  ·exact ⟨_,_,rfl,by simp⟩
  ·exact ⟨_,_,rfl,by simp⟩
 ·obtain ⟨g,cap,rfl,hb,hlt⟩:=World.ownsRow.form h h0
  refine ⟨_,_,rfl,fun j u hj => ⟨g,rfl,hlt,?_,?_⟩⟩
  all_goals
   obtain ⟨hjl,_⟩:=List.getElem?_eq_some_iff.1 hj
   rw [← hm,List.getElem?_map,Option.map_eq_some_iff] at hj
   obtain ⟨r,hr,rfl⟩:=hj
   have hr5:=h5 r (List.mem_of_getElem? hr)
  ·rw [World.ownsRow.cellAt h (j * 5) (by omega),List.getElem?_map]
   have:=flatten_at rows h5 j 0 r hr (by omega)
   rw [Nat.add_zero] at this
   rw [this,List.getElem?_eq_getElem (by omega)]
   simp [List.getD_eq_getElem?_getD,List.getElem?_eq_getElem (show 0 < r.length by omega)]
  ·rw [World.ownsRow.cellAt h (j * 5 + 1) (by omega),List.getElem?_map,flatten_at rows h5 j 1 r hr (by omega),List.getElem?_eq_getElem (by omega)]
   simp [List.getD_eq_getElem?_getD,List.getElem?_eq_getElem (show 1 < r.length by omega)]
theorem refIds_no (f:FuncM) (B:Nat) (pv bv:Value) (w:World) (hpv:Ints w B pv f.params) (hbv:BlocksR w B bv f.blocks) (hB:B ≤ w.heap.size) (hfew:FewV f) (hl5:f.blocks.length ≤ 512) (hno:¬ IdsOk f) :
  Calls Tryz.prog 13 #[.agg #[pv,.int .i64 f.arrays,.int .i64 f.cells,bv]] w fun e w' => e=.returned (.tuple #[.slice none 0 0,.bool false]) ∧ Below w.heap.size w w':=by
 refine (refIds_any f B pv bv w hpv hbv hB hfew hl5).mono ?_
 rintro e w' ⟨hb,⟨_,he⟩ | ⟨h,_⟩⟩
 ·exact ⟨he,hb⟩
 ·exact absurd h hno
theorem refIds_yes (f:FuncM) (B:Nat) (pv bv:Value) (w:World) (hpv:Ints w B pv f.params) (hbv:BlocksR w B bv f.blocks) (hB:B ≤ w.heap.size) (hfew:FewV f) (hl5:f.blocks.length ≤ 512) (hyes:IdsOk f) :
  Calls Tryz.prog 13 #[.agg #[pv,.int .i64 f.arrays,.int .i64 f.cells,bv]] w fun e w' => ∃ (v:Value) (xs:List Int),e=.returned (.tuple #[v,.bool true]) ∧ w'.ownsRow w.heap.size 3 1 v xs.length (xs.map (Value.int .i64)) ∧ xs.Pairwise (· < ·) ∧ xs.Perm ((valuesM f).map (·.1)) ∧ Below w.heap.size w w':=by
 refine (refIds_any f B pv bv w hpv hbv hB hfew hl5).mono ?_
 rintro e w' ⟨hb,⟨h,_⟩ | ⟨_,v,xs,he,h1,h2,h3⟩⟩
 ·exact absurd hyes h
 ·exact ⟨v,xs,he,h1,h2,h3,hb⟩
theorem find_is (w:World) (B:Nat) (v:Value) (xs:List Int) (n:Int) (k:Nat) (hx:Ints w B v xs) (hr:xs.Pairwise (· < ·)) (hl:xs.length ≤ 100000) (hk:xs[k]?=some n) :
  Calls Tryz.prog 81 #[v,.int .i64 n] w fun e w' => e=.returned (.int .i64 k) ∧ w=w':=by
 refine (find_any w B v xs n hx hr hl).mono ?_
 rintro e w' ⟨r,rfl,hf,rfl⟩
 refine ⟨?_,rfl⟩
 rcases hf with ⟨_,h⟩ | ⟨j,rfl,hj⟩
 ·exact absurd (List.mem_of_getElem? hk) h
 ·obtain ⟨h1,e1⟩:=List.getElem?_eq_some_iff.1 hk
  obtain ⟨h2,e2⟩:=List.getElem?_eq_some_iff.1 hj
  rcases Nat.lt_trichotomy j k with h | h | h
  ·have:=List.pairwise_iff_getElem.1 hr j k h2 h1 h
   omega
  ·rw [h]
  ·have:=List.pairwise_iff_getElem.1 hr k j h1 h2 h
   omega
theorem find_not (w:World) (B:Nat) (v:Value) (xs:List Int) (n:Int) (hx:Ints w B v xs) (hr:xs.Pairwise (· < ·)) (hl:xs.length ≤ 100000) (hn:n ∉ xs) :
  Calls Tryz.prog 81 #[v,.int .i64 n] w fun e w' => e=.returned (.int .i64 (-1)) ∧ w=w':=by
 refine (find_any w B v xs n hx hr hl).mono ?_
 rintro e w' ⟨r,rfl,hf,rfl⟩
 refine ⟨?_,rfl⟩
 rcases hf with ⟨h,_⟩ | ⟨j,rfl,hj⟩
 ·rw [h]
 ·exact absurd (List.mem_of_getElem? hj) hn
def TypesTo (vs:List (Int × Int)) (xs ts:List Int) (k:Nat):Prop:=∀ (j i:Nat) (d:Int × Int),j < k → vs[j]?=some d → xs[i]?=some d.1 → ts[i]?=some d.2
theorem types_succ {vs:List (Int × Int)} {xs ts:List Int} {k i:Nat} {d:Int × Int} (h:TypesTo vs xs ts k) (hn:(vs.map (·.1)).Nodup) (hr:xs.Pairwise (· < ·)) (hd:vs[k]?=some d) (hi:xs[i]?=some d.1) (hl:i < ts.length):TypesTo vs xs (ts.set i d.2) (k + 1):=by
 intro j i' e hj he hi'
 rcases Nat.lt_or_ge j k with hjk | hjk
 ·have hne:i ≠ i':=by
   intro h1
   subst h1
   rw [hi] at hi'
   injection hi' with h2
   have e1:(vs.map (·.1))[j]?=some e.1:=by rw [List.getElem?_map,he];rfl
   have e2:(vs.map (·.1))[k]?=some d.1:=by rw [List.getElem?_map,hd];rfl
   obtain ⟨a1,a2⟩:=List.getElem?_eq_some_iff.1 e1
   obtain ⟨b1,b2⟩:=List.getElem?_eq_some_iff.1 e2
   have:=List.pairwise_iff_getElem.1 hn j k a1 b1 hjk
   rw [a2,b2] at this
   exact this h2.symm
  rw [List.getElem?_set_ne hne]
  exact h j i' e hjk he hi'
 ·have hjk':j=k:=by omega
  subst hjk'
  rw [hd] at he
  injection he with he
  subst he
  have:i=i':=by
   obtain ⟨a1,a2⟩:=List.getElem?_eq_some_iff.1 hi
   obtain ⟨b1,b2⟩:=List.getElem?_eq_some_iff.1 hi'
   rcases Nat.lt_trichotomy i i' with h1 | h1 | h1
   ·have:=List.pairwise_iff_getElem.1 hr i i' a1 b1 h1
    omega
   ·exact h1
   ·have:=List.pairwise_iff_getElem.1 hr i' i b1 a1 h1
    omega
  subst this
  exact List.getElem?_set_self hl
theorem at_mem {vs:List (Int × Int)} {id t:Int} (h:Defs.at vs id=some t):(id,t) ∈ vs:=by
 unfold Defs.at at h
 rw [Option.map_eq_some_iff] at h
 obtain ⟨d,hd,rfl⟩:=h
 have h1:=List.find?_some hd
 have h2:=List.mem_of_find?_eq_some hd
 have:d.1=id:=by simpa using h1
 rw [← this]
 exact h2
theorem any_take_succ {α:Type} (p:α → Bool) {l:List α} {k:Nat} {x:α} (hx:l[k]?=some x):(l.take (k + 1)).any p=((l.take k).any p || p x):=by
 obtain ⟨hk,rfl⟩:=List.getElem?_eq_some_iff.1 hx
 rw [List.take_succ_eq_append_getElem hk,List.any_append]
 simp
theorem unknown_at {ds:Defs} {us:List (Int × Int)} {k:Nat} {u:Int × Int} (hu:us[k]?=some u) (h:(ds.at u.1).isSome=false):unknownB ds us=true:=by
 unfold unknownB
 rw [List.any_eq_true]
 exact ⟨u,List.mem_of_getElem? hu,by rw [h];rfl⟩
def errTo (ds:Defs) (us:List (Int × Int)) (k:Nat):Int:=if unfitB ds (us.take k) then 3 else 0
theorem err_keep {ds:Defs} {us:List (Int × Int)} {k:Nat} {u:Int × Int} {t:Int} (hu:us[k]?=some u) (ht:ds.at u.1=some t) (h:(u.2 != 0 && t != u.2)=false):errTo ds us (k + 1)=errTo ds us k:=by
 unfold errTo unfitB
 rw [any_take_succ _ hu]
 simp only [ht,h,Bool.or_false]
theorem err_set {ds:Defs} {us:List (Int × Int)} {k:Nat} {u:Int × Int} {t:Int} (hu:us[k]?=some u) (ht:ds.at u.1=some t) (h:(u.2 != 0 && t != u.2)=true):errTo ds us (k + 1)=3:=by
 unfold errTo unfitB
 rw [any_take_succ _ hu]
 simp only [ht,h,Bool.or_true,if_true]
theorem RV.read' {w:World} {base:Nat} {v:Value} {vs:List (Int × Int)} (h:RV w base v vs) :
  ∃ A c,v=.slice A vs.length c ∧ ∀ (j:Nat) (d:Int × Int),vs[j]?=some d → ∃ g,A=some ⟨g,0,none⟩ ∧ base ≤ g ∧ g < w.heap.size ∧ w.cell? ⟨g,j * 2,none⟩=some (.int .i64 d.1) ∧ w.cell? ⟨g,j * 2 + 1,none⟩=some (.int .i64 d.2):=by
 obtain ⟨A,c,rfl,hr⟩:=RV.read h
 refine ⟨A,c,rfl,fun j d hj => ?_⟩
 obtain ⟨g,rfl,h1,h2,h3⟩:=hr j d hj
 exact ⟨g,rfl,(World.ownsRow.lt h g rfl).1,h1,h2,h3⟩
theorem own_below {w w':World} {base n:Nat} {e:TypeId} {size:Nat} {v:Value} {xs:List Value} (h:w.ownsRow base e size v n xs) (hb:Below w.heap.size w w'):w'.ownsRow base e size v n xs :=
 World.ownsRow.kept (row:=none) h ⟨hb.os,hb.tape,hb.output,hb.size,fun k hk _ => hb.block k hk⟩ (by
  cases hv:v.ownBlock with
  | none => exact .inl rfl
  | some k => exact .inr (by simp))
theorem look_eq {f:FuncM} {ds:Defs} (h:formedM f=some ds):(lookM f).1=if unknownB ds (usesM f) then 6 else if unfitB ds (usesM f) then 3 else 0:=by
 unfold lookM
 rw [h]
 simp only
 split
 ·rfl
 ·split <;> rfl
set_option maxRecDepth 100000 in
set_option maxHeartbeats 16000000 in
theorem refCheck_yes (f:FuncM) (B:Nat) (pv bv:Value) (w:World) (hpv:Ints w B pv f.params) (hbv:BlocksR w B bv f.blocks) (hB:B ≤ w.heap.size) (hfr:formedR f=true) (hio:IdsOk f) :
  Calls Tryz.prog 43 #[.agg #[pv,.int .i64 f.arrays,.int .i64 f.cells,bv]] w fun e w' => e=.returned (.int .i64 (lookM f).1) ∧ Below w.heap.size w w':=by
 have HFORM:=hideI (formed_yes hfr hio)
 obtain ⟨l1,l2,l3,l4,l5,l6,l7,l8⟩:=limits_bd (form_bd HFORM.out)
 have HFEW:=hideI (form_fewv (form_bd HFORM.out))
 obtain ⟨i0,hi,hz0,hz1,hz2⟩:=info_parts int_info
 have HPV:=hideI hpv
 have HBV:=hideI hbv
 have HFR:=hideI hfr
 have HIO:=hideI hio
 obtain ⟨A,c,rfl,hbm,_⟩:=hbv
 obtain ⟨P,pc,rfl,hpm,_⟩:=hpv
 obtain ⟨vs,hvs⟩:∃ vs,vs=valuesM f:=⟨_,rfl⟩
 have HVS:=hideI hvs
 obtain ⟨n,hn⟩:∃ n,n=vs.length:=⟨_,rfl⟩
 have HN:=hideI hn
 have hn5:n < 5000:=by rw [hn,hvs];exact values_few HFEW.out
 have hbox0:=hideI (heap_alloc_new w (.cells #[.slice P f.params.length pc,.int .i64 f.arrays,.int .i64 f.cells,.slice A f.blocks.length c] 25))
 have HB0:Hid (Below w.heap.size w (w.alloc (.cells #[.slice P f.params.length pc,.int .i64 f.arrays,.int .i64 f.cells,.slice A f.blocks.length c] 25))):=(Below.refl _ w).alloc (Nat.le_refl _) _
 obtain ⟨us,hus⟩:∃ us,us=usesM f:=⟨_,rfl⟩
 have HUS2:Hid (f.blocks.flatMap usesBlock=us):=hus.symm
 have HUS:=hideI hus
 obtain ⟨U,hU⟩:∃ U,U=us.length:=⟨_,rfl⟩
 have hU3:U ≤ 3000000:=by rw [hU,hus];exact form_few HFORM.out
 have HU:=hideI hU
 clear hvs hn hfr hio l8 hus hU
 go_enter Tryz.func43,Tryz.ntmps43
 go_wp2_with (first
  | (go_at_call 80;refine (refFormed_any f B _ _ _ (HPV.out.keeps ((Keeps.refl w).alloc hB _)) (HBV.out.keeps ((Keeps.refl w).alloc hB _)) (by simp;omega)).mono ?_;rw [HFR.out];rintro e w1 ⟨rfl,hb1⟩;have HBX1:=hideI ((hb1.block _ (lt_of_heap hbox0.out)).trans hbox0.out);have hx:=row_cells HBX1.out rfl;have HB1:=hideI (HB0.out.trans (hb1.mono (by simp)));have HK1:=hideI (Keeps.mono' (Keeps.of_below HB1.out) hB);have hs1:w.heap.size < w1.heap.size:=lt_of_heap HBX1.out;clear hb1)
  | (go_at_call 13;refine (refIds_yes f B _ _ _ (HPV.out.keeps HK1.out) (HBV.out.keeps HK1.out) (Nat.le_trans hB (Nat.le_of_lt hs1)) HFEW.out l7 HIO.out).mono ?_;rintro e w2 ⟨v2,xs,rfl,hown2,hris,hperm,hb2⟩;have hxl:xs.length=n:=(by rw [hperm.length_eq,List.length_map,HN.out,HVS.out]);obtain ⟨XA,xc,rfl,_⟩:=own_read hown2;rw [hxl];have HINTS:=hideI (ints_own hown2 (by omega));rw [hxl] at HINTS;clear hx;have HBX2:=hideI ((hb2.block _ (lt_of_heap HBX1.out)).trans HBX1.out);have hx:=row_cells HBX2.out rfl;have HB2:=hideI (HB1.out.trans (hb2.mono (Nat.le_of_lt hs1)));have HXL:=hideI hxl;have HRIS:=hideI hris;have HPERM:=hideI hperm;have hs2:w.heap.size < w2.heap.size:=lt_of_heap HBX2.out;clear hown2 hris hperm hb2 hxl)
  | (at_make;refine wpList_make_full _ rfl _ _ 22 rfl w2.heap.size 3 i0 (.int .i64 0) 1 Tryz.underlying22 hi hz0 hz1 .i64 .i64 _ _ n rfl rfl rfl rfl (by rw [hz2];omega) (by unfold maxLen;omega) (Nat.le_refl _) ?_;intro w3 hown3 hg3;have HOWN3:=hideI hown3;have HB3:=hideI (show Below w2.heap.size w2 w3 from ⟨hg3.os,hg3.tape,hg3.output,hg3.size,fun k hk => hg3.block k hk (by simp)⟩);clear hx;have HBX3:=hideI ((HB3.out.block _ hs2).trans HBX2.out);have hx:=row_cells HBX3.out rfl;have HB3w:=hideI (HB2.out.trans (HB3.out.mono (Nat.le_of_lt hs2)));have HK3:=hideI (Keeps.mono' (Keeps.of_below HB3w.out) hB);have hs3:w2.heap.size < w3.heap.size:=(World.ownsRow.lt hown3 _ rfl).2;clear hown3 hg3)
  | (go_at_call 37;refine (refValues_any f B _ _ _ (HPV.out.keeps HK3.out) (HBV.out.keeps HK3.out) (by omega) HFEW.out l7).mono ?_;rintro e w4 ⟨v4,rfl,hv4,hb4⟩;rw [← HVS.out] at hv4;obtain ⟨VA,vc,rfl,hvr⟩:=RV.read' hv4;rw [← HN.out];have HVR:=hideI hvr;have HB4:=hideI hb4;clear hb4 hv4 hvr hx))
 have HOWN4:Hid (w4.ownsRow w2.heap.size 3 1 (.slice (some ⟨w2.heap.size,0,none⟩) n n) n ((List.replicate n (0:Int)).map (Value.int .i64))):=by
  have h:=own_below HOWN3.out HB4.out
  rw [show (Value.int IntKind.i64 0).cells=#[Value.int IntKind.i64 0] from rfl,toList_madeCells_one,Nat.mul_one] at h
  show World.ownsRow _ _ _ _ _ _ _
  rw [List.map_replicate]
  exact h
 have hs4:w3.heap.size ≤ w4.heap.size:=HB4.out.size
 have HB4w:=hideI (HB3w.out.trans (HB4.out.mono (by omega)))
 have HXI4:=hideI (HINTS.out.keeps (Keeps.of_below (HB3.out.trans (HB4.out.mono (Nat.le_of_lt hs3)))))
 have HBX4:=hideI ((HB4.out.block _ (by omega)).trans HBX3.out)
 go_loopw [7] (fun u wr => ∃ (k:Nat) (ts:List Int),k ≤ n ∧ u=.int .i64 k ∧ Hid (ts.length=n) ∧ Hid (TypesTo vs xs ts k) ∧ wr.ownsRow w2.heap.size 3 1 (.slice (some ⟨w2.heap.size,0,none⟩) n n) n (ts.map (Value.int .i64)) ∧ w4.grownBy wr (some w2.heap.size)) (fun u _ => n - (intOf u).toNat)
 case atStart => exact ⟨0,List.replicate n 0,Nat.zero_le _,rfl,(by show (List.replicate n (0:Int)).length=n;simp),(fun j i d hj => absurd hj (by omega)),HOWN4.out,World.grownBy.refl _ _⟩
 case round =>
  obtain ⟨k,ts,hk,rfl,htl,htt,hown,hgr⟩:=hrel
  have HOWN:=hideI hown
  have HGR:=hideI hgr
  clear hown hgr
  have HXIr:=hideI (HXI4.out.keeps (Keeps.of_grown HGR.out (Nat.le_refl _) (by omega)))
  have HBXr:=hideI ((HGR.out.block w.heap.size (by omega) (by simp;omega)).trans HBX4.out)
  by_cases hlt:k < n
  ·obtain ⟨d,hd⟩:∃ d,vs[k]?=some d:=⟨_,List.getElem?_eq_getElem (by have:=HN.out;omega)⟩
   obtain ⟨g,rfl,hg1,hg2,c0,c1⟩:=HVR.out k d hd
   have hgT:w2.heap.size ≠ g:=by omega
   have d0:wr.cell? ⟨g,k * 2,none⟩=some (.int .i64 d.1):=(World.cell?_of_block (a:=⟨g,k * 2,none⟩) (HGR.out.block g hg2 (by simp;omega))).trans c0
   have d1:wr.cell? ⟨g,k * 2 + 1,none⟩=some (.int .i64 d.2):=(World.cell?_of_block (a:=⟨g,k * 2 + 1,none⟩) (HGR.out.block g hg2 (by simp;omega))).trans c1
   have hmem:d.1 ∈ xs:=HPERM.out.symm.subset (by rw [← HVS.out];exact List.mem_map_of_mem (List.mem_of_getElem? hd))
   obtain ⟨i,hix⟩:=List.getElem?_of_mem hmem
   have hil:i < n:=by obtain ⟨h,_⟩:=List.getElem?_eq_some_iff.1 hix;have:=HXL.out;omega
   obtain ⟨y,hy⟩:∃ y,ts[i]?=some y:=⟨_,List.getElem?_eq_getElem (by have:=htl.out;omega)⟩
   have q1:wr.cell? ⟨w2.heap.size,i,none⟩=some (.int .i64 y):=by rw [World.ownsRow.cellAt HOWN.out i (by omega),List.getElem?_map,hy];rfl
   have q2:wr.frozen? ⟨w2.heap.size,i,none⟩=false:=World.ownsRow.frozenAt HOWN.out i
   have HD:=hideI hd
   have HIX:=hideI hix
   have hxl5:xs.length ≤ 100000:=by have:=HXL.out;omega
   clear hd c0 c1 hmem hix hy
   go_wp2_with fail
   go_region_held3 (fun w' => w'.cell? ⟨g,k * 2,none⟩=some (.int .i64 d.1) ∧ w'.cell? ⟨g,k * 2 + 1,none⟩=some (.int .i64 d.2)) (first | go_keep | (simp only [World.cell?_setCell_ne, *];done))
    (first | (go_at_call 81;refine (find_is _ w2.heap.size _ xs d.1 i (HXIr.out.keeps (Keeps.heap' (Keeps.refl _) (by rfl))) HRIS.out hxl5 HIX.out).mono ?_;rintro e w9 ⟨rfl,rfl⟩))
   have HON:Hid ((wr.setCell ⟨w2.heap.size,i,none⟩ (.int .i64 d.2)).drew.ownsRow w2.heap.size 3 1 (.slice (some ⟨w2.heap.size,0,none⟩) n n) n ((ts.set i d.2).map (Value.int .i64))):=by
    show World.ownsRow _ _ _ _ _ _ _
    rw [List.map_set]
    exact ((World.ownsRow.stored HOWN.out i _).1).drew
   have HGN:Hid (w4.grownBy (wr.setCell ⟨w2.heap.size,i,none⟩ (.int .i64 d.2)).drew (some w2.heap.size)) :=
    (HGR.out.trans_grown (World.ownsRow.stored HOWN.out i _).2).trans_grown ⟨rfl,rfl,rfl,Nat.le_refl _,fun _ _ _ => rfl⟩
   have HTN:Hid (TypesTo vs xs (ts.set i d.2) (k + 1)):=types_succ htt.out (by rw [HVS.out];exact HIO.out.2) HRIS.out HD.out HIX.out (by have:=htl.out;omega)
   clear d0 d1 q1 q2
   go_wp2
   go_roundw
   case rel => exact ⟨k + 1,ts.set i d.2,by omega,by go_num,(by show (ts.set i d.2).length=n;rw [List.length_set];exact htl.out),HTN.out,HON.out,HGN.out⟩
   case measure => simp [intOf];omega
  ·have hkn:k=n:=by omega
   have HTT:Hid (TypesTo vs xs ts vs.length):=by have:=htt.out;rw [hkn,HN.out] at this;exact this
   have hx:=row_cells HBXr.out rfl
   have HBr:=hideI (show Below w2.heap.size w4 wr from ⟨HGR.out.os,HGR.out.tape,HGR.out.output,HGR.out.size,fun b hb => HGR.out.block b (by omega) (by simp;omega)⟩)
   have HBw:=hideI (HB4w.out.trans (HBr.out.mono (by omega)))
   have HKr:=hideI (Keeps.mono' (Keeps.of_below HBw.out) hB)
   have hsr:w.heap.size < wr.heap.size:=lt_of_heap HBXr.out
   clear hkn
   go_wp2_with (go_at_call 15;refine (refUses_any f.blocks B _ _ _ _ _ (HBV.out.keeps HKr.out) (by omega) (form_few HFORM.out) l7 (form_form HFORM.out) (form_phi HFORM.out)).mono ?_;rintro e w5 ⟨v5,rfl,hv5,hb5⟩;rw [HUS2.out] at hv5;obtain ⟨UA,uc,rfl,hur⟩:=RU.read hv5;rw [← HU.out];have HUR:=hideI hur;have HB5:=hideI hb5;clear hv5 hur hb5 hx)
   have HT5:=hideI (own_below HOWN.out HB5.out)
   have HX5:=hideI (HXIr.out.keeps (Keeps.of_below (HB5.out.mono (by have:=HBr.out.size;omega:w2.heap.size ≤ wr.heap.size))))
   have HF5:=hideI (HBw.out.trans (HB5.out.mono (Nat.le_of_lt hsr)))
   have hxl5:xs.length ≤ 100000:=by have:=HXL.out;omega
   have HLK:Hid ((lookM f).1=if unknownB vs us then 6 else if unfitB vs us then 3 else 0):=by show _=_;rw [HVS.out,HUS.out];exact look_eq HFORM.out
   obtain ⟨wq,rfl⟩:∃ wq:World,wq=wr:=⟨_,rfl⟩
   go_loopw [9,10] (fun o u wr => ∃ k m:Nat,k ≤ U ∧ u=.int .i64 k ∧ o=.int .i64 (errTo vs us k) ∧ Hid (∀ (j:Nat) (u:Int × Int),j < k → us[j]?=some u → (Defs.at vs u.1).isSome=true) ∧ wr=w5.drewN m) (fun _ u _ => U - (intOf u).toNat)
   case atStart => exact ⟨0,0,Nat.zero_le _,rfl,by simp [errTo,unfitB],(fun j u hj => absurd hj (by omega)),rfl⟩
   case round =>
    obtain ⟨k2,m,hk2,rfl,rfl,hkn,rfl⟩:=hrel
    obtain ⟨er,her⟩:∃ er,er=errTo vs us k2:=⟨_,rfl⟩
    rw [← her]
    have HER:=hideI her
    clear her
    by_cases hlu:k2 < U
    ·obtain ⟨u,hu⟩:∃ u,us[k2]?=some u:=⟨_,List.getElem?_eq_getElem (by have:=HU.out;omega)⟩
     obtain ⟨g5,rfl,hg5,e0,e1⟩:=HUR.out k2 u hu
     have HUU:=hideI hu
     clear hu
     cases hat:Defs.at vs u.1 with
     | none =>
      have HAT:=hideI hat
      have hnx:u.1 ∉ xs:=by
       intro hm
       have h1:=HPERM.out.subset hm
       rw [← HVS.out,← at_some,hat] at h1
       cases h1
      have HRES:Hid ((lookM f).1=6):=by
       show _=_
       rw [HLK.out,unknown_at HUU.out (by rw [HAT.out];rfl)]
       rfl
      clear hat
      go_wp2_with (go_at_call 81;refine (find_not _ w2.heap.size _ xs u.1 (HX5.out.keeps (Keeps.heap' (Keeps.refl _) (by rfl))) HRIS.out hxl5 hnx).mono ?_;rintro e w9 ⟨rfl,rfl⟩)
      go_ret
      exact ⟨by rw [HRES.out];rfl,drewN_below' HF5.out⟩
     | some t =>
      have HAT:=hideI hat
      have hmv:(u.1,t) ∈ vs:=at_mem hat
      have hm:u.1 ∈ xs:=HPERM.out.symm.subset (by rw [← HVS.out];exact List.mem_map.2 ⟨_,hmv,rfl⟩)
      obtain ⟨i,hix⟩:=List.getElem?_of_mem hm
      obtain ⟨j,hj⟩:=List.getElem?_of_mem (at_mem hat)
      have hjl:j < vs.length:=(List.getElem?_eq_some_iff.1 hj).1
      have hti:ts[i]?=some t:=HTT.out j i (u.1,t) hjl hj hix
      have hil:i < n:=by obtain ⟨h,_⟩:=List.getElem?_eq_some_iff.1 hix;have:=HXL.out;omega
      have q1:w5.cell? ⟨w2.heap.size,i,none⟩=some (.int .i64 t):=by rw [World.ownsRow.cellAt HT5.out i (by omega),List.getElem?_map,hti];rfl
      have HIX:=hideI hix
      have HKN:Hid (∀ (j:Nat) (u:Int × Int),j < k2 + 1 → us[j]?=some u → (Defs.at vs u.1).isSome=true):=by
       intro j u' hj hu'
       rcases Nat.lt_or_ge j k2 with h | h
       ·exact hkn.out j u' h hu'
       ·have:j=k2:=by omega
        subst this
        rw [HUU.out] at hu'
        injection hu' with hu'
        rw [← hu',HAT.out]
        rfl
      clear hat hm hmv hix hj hti
      have hcmp:(u.2 != 0)=false ∨ ((u.2 != 0)=true ∧ (u.2 != t)=false) ∨ ((u.2 != 0)=true ∧ (u.2 != t)=true):=by
       cases u.2 != 0 <;> cases u.2 != t <;> simp
      rcases hcmp with h1 | ⟨h1,h2⟩ | ⟨h1,h2⟩
      ·have HE:Hid (errTo vs us (k2 + 1)=er):=by show _=_;rw [HER.out];exact err_keep HUU.out HAT.out (by rw [h1];rfl)
       go_wp2_with (go_at_call 81;refine (find_is _ w2.heap.size _ xs u.1 i (HX5.out.keeps (Keeps.heap' (Keeps.refl _) (by rfl))) HRIS.out hxl5 HIX.out).mono ?_;rintro e w9 ⟨rfl,rfl⟩)
       go_quiet (fail)
       go_wp2
       go_roundw
       case rel => exact ⟨k2 + 1,_,by omega,by go_num,by rw [HE.out],HKN.out,rfl⟩
       case measure => simp [intOf];omega
      ·have HE:Hid (errTo vs us (k2 + 1)=er):=by
        show _=_
        rw [HER.out]
        refine err_keep HUU.out HAT.out ?_
        rw [h1]
        have:u.2=t:=by simpa using h2
        simp [this]
       go_wp2_with (go_at_call 81;refine (find_is _ w2.heap.size _ xs u.1 i (HX5.out.keeps (Keeps.heap' (Keeps.refl _) (by rfl))) HRIS.out hxl5 HIX.out).mono ?_;rintro e w9 ⟨rfl,rfl⟩)
       go_quiet (fail)
       go_wp2
       go_roundw
       case rel => exact ⟨k2 + 1,_,by omega,by go_num,by rw [HE.out],HKN.out,rfl⟩
       case measure => simp [intOf];omega
      ·have HE:Hid (errTo vs us (k2 + 1)=3):=by
        show _=_
        refine err_set HUU.out HAT.out ?_
        rw [h1]
        have h3:u.2 ≠ t:=by simpa using h2
        simp
        exact fun h => h3 h.symm
       go_wp2_with (go_at_call 81;refine (find_is _ w2.heap.size _ xs u.1 i (HX5.out.keeps (Keeps.heap' (Keeps.refl _) (by rfl))) HRIS.out hxl5 HIX.out).mono ?_;rintro e w9 ⟨rfl,rfl⟩)
       go_quiet (fail)
       go_wp2
       go_roundw
       case rel => exact ⟨k2 + 1,_,by omega,by go_num,by rw [HE.out],HKN.out,rfl⟩
       case measure => simp [intOf];omega
    ·have HRES:Hid ((lookM f).1=er):=by
      show _=_
      have hun:unknownB vs us=false:=by
       unfold unknownB
       rw [List.any_eq_false]
       intro u hu
       obtain ⟨j,hj⟩:=List.getElem?_of_mem hu
       have:=hkn.out j u (by obtain ⟨h,_⟩:=List.getElem?_eq_some_iff.1 hj;have:=HU.out;omega) hj
       simp [this]
      rw [HLK.out,HER.out,hun]
      unfold errTo
      rw [List.take_of_length_le (by have:=HU.out;omega)]
      rfl
     go_wp2
     go_ret
     exact ⟨by rw [HRES.out];rfl,drewN_below' HF5.out⟩
set_option maxRecDepth 100000 in
set_option maxHeartbeats 4000000 in
theorem refCheck_any (f:FuncM) (B:Nat) (pv bv:Value) (w:World) (hpv:Ints w B pv f.params) (hbv:BlocksR w B bv f.blocks) (hB:B ≤ w.heap.size) :
  Calls Tryz.prog 43 #[.agg #[pv,.int .i64 f.arrays,.int .i64 f.cells,bv]] w fun e w' => e=.returned (.int .i64 (lookM f).1) ∧ Below w.heap.size w w':=by
 by_cases hio:formedR f=true ∧ IdsOk f
 ·exact refCheck_yes f B pv bv w hpv hbv hB hio.1 hio.2
 have hno:formedM f=none:=by
  cases hfr:formedR f
  ·exact formed_no hfr
  ·exact formed_ids_no (fun h => hio ⟨hfr,h⟩)
 have hl:(lookM f).1=2:=by unfold lookM;rw [hno]
 rw [hl]
 have HPV:=hideI hpv
 have HBV:=hideI hbv
 obtain ⟨A,c,rfl,hbm,_⟩:=hbv
 obtain ⟨P,pc,rfl,hpm,_⟩:=hpv
 have hbox0:=hideI (heap_alloc_new w (.cells #[.slice P f.params.length pc,.int .i64 f.arrays,.int .i64 f.cells,.slice A f.blocks.length c] 25))
 have HB0:Hid (Below w.heap.size w (w.alloc (.cells #[.slice P f.params.length pc,.int .i64 f.arrays,.int .i64 f.cells,.slice A f.blocks.length c] 25))):=(Below.refl _ w).alloc (Nat.le_refl _) _
 have HIO:=hideI hio
 clear hio hno hl
 cases hfr:formedR f
 ·have HFR:=hideI hfr
  clear hfr
  go_enter Tryz.func43,Tryz.ntmps43
  go_wp2_with (go_at_call 80;refine (refFormed_any f B _ _ _ (HPV.out.keeps ((Keeps.refl w).alloc hB _)) (HBV.out.keeps ((Keeps.refl w).alloc hB _)) (by simp;omega)).mono ?_;rw [HFR.out];rintro e w1 ⟨rfl,hb1⟩;have HB1:=hideI (HB0.out.trans (hb1.mono (by simp)));clear hb1)
  go_ret
  exact ⟨rfl,HB1.out⟩
 ·have HFR:=hideI hfr
  have hnio:¬ IdsOk f:=fun h => HIO.out ⟨hfr,h⟩
  have hlim:limitsB f=true:=by
   cases h:limitsB f
   ·rw [formedR_limits h] at hfr
    cases hfr
   ·rfl
  obtain ⟨l1,l2,l3,l4,l5,l6,l7,l8⟩:=limits_bd hlim
  have HFEW:=hideI (form_fewv hlim)
  clear hfr hlim l8
  go_enter Tryz.func43,Tryz.ntmps43
  go_wp2_with (first
   | (go_at_call 80;refine (refFormed_any f B _ _ _ (HPV.out.keeps ((Keeps.refl w).alloc hB _)) (HBV.out.keeps ((Keeps.refl w).alloc hB _)) (by simp;omega)).mono ?_;rw [HFR.out];rintro e w1 ⟨rfl,hb1⟩;have HBX1:=hideI ((hb1.block _ (lt_of_heap hbox0.out)).trans hbox0.out);have hx:=row_cells HBX1.out rfl;have HB1:=hideI (HB0.out.trans (hb1.mono (by simp)));have HK1:=hideI (Keeps.mono' (Keeps.of_below HB1.out) hB);have hs1:w.heap.size < w1.heap.size:=lt_of_heap HBX1.out;clear hb1)
   | (go_at_call 13;refine (refIds_no f B _ _ _ (HPV.out.keeps HK1.out) (HBV.out.keeps HK1.out) (Nat.le_trans hB (Nat.le_of_lt hs1)) HFEW.out l7 hnio).mono ?_;rintro e w2 ⟨rfl,hb2⟩;have HB2:=hideI (HB1.out.trans (hb2.mono (Nat.le_of_lt hs1)));clear hb2))
  go_ret
  exact ⟨rfl,HB2.out⟩
end Go.Proofs.YtaehbgppfahdeaaGreat

namespace Go.Proofs.YtaehbgppfahdeaaGreat
inductive ReachW (bs:List BlockM) (gone:Int):Nat → Prop
 | start (h:gone ≠ 0):ReachW bs gone 0
 | step {x y:Nat} (h:ReachW bs gone y) (hx:x ∈ succM bs y) (hg:(x:Int) ≠ gone):ReachW bs gone x
structure Bfs (bs:List BlockM) (gone:Int) (b:Option (Nat × Nat)) (S ws:List Nat):Prop where
 nodup:S.Nodup
 lt:∀ x ∈ S,x < bs.length
 sound:∀ x ∈ S,ReachW bs gone x
 zero:0 ∈ S
 sub:∀ x ∈ ws,x ∈ S
 closed:∀ x ∈ S,x ∈ ws ∨ ∀ (j y:Nat),(succM bs x)[j]?=some y → (y:Int) ≠ gone → (∀ i,b=some (x,i) → j < i) → y ∈ S
 here:∀ x i,b=some (x,i) → x ∈ S
variable {bs:List BlockM} {gone:Int} {b i t:Nat} {S ws:List Nat}
theorem Bfs.start (h:gone ≠ 0) (hn:0 < bs.length):Bfs bs gone none [0] [0] :=
 ⟨by simp,by simpa using hn,by simpa using ReachW.start h,by simp,by simp,fun x hx => .inl (by simpa using hx),fun _ _ h => by cases h⟩
theorem Bfs.pop (h:Bfs bs gone none S (b :: ws)):Bfs bs gone (some (b,0)) S ws:=by
 refine ⟨h.nodup,h.lt,h.sound,h.zero,fun x hx => h.sub x (List.mem_cons_of_mem _ hx),fun x hx => ?_,fun x i e => by cases e;exact h.sub _ (List.mem_cons_self ..)⟩
 by_cases e:x=b
 ·subst e
  exact .inr fun j y _ _ hi => absurd (hi 0 rfl) (by omega)
 ·rcases h.closed x hx with h1 | h1
  ·rcases List.mem_cons.1 h1 with h2 | h2
   ·exact absurd h2 e
   ·exact .inl h2
  ·exact .inr fun j y hj hy _ => h1 j y hj hy (fun i e => by cases e)
theorem Bfs.skip (h:Bfs bs gone (some (b,i)) S ws) (ht:(succM bs b)[i]?=some t) (hs:t ∈ S ∨ (t:Int)=gone):Bfs bs gone (some (b,i + 1)) S ws:=by
 refine ⟨h.nodup,h.lt,h.sound,h.zero,h.sub,fun x hx => ?_,fun x k e => by cases e;exact h.here _ _ rfl⟩
 rcases h.closed x hx with h1 | h1
 ·exact .inl h1
 ·right
  intro j y hj hy hi
  by_cases e:x=b
  ·subst e
   have hji:=hi _ rfl
   by_cases e2:j=i
   ·subst e2
    rw [ht] at hj
    cases hj
    exact hs.resolve_right hy
   ·exact h1 j y hj hy (fun k ek => by cases ek;omega)
  ·exact h1 j y hj hy (fun k ek => by cases ek;exact absurd rfl e)
theorem Bfs.push (h:Bfs bs gone (some (b,i)) S ws) (ht:(succM bs b)[i]?=some t) (hs:t ∉ S) (hg:(t:Int) ≠ gone) (hl:t < bs.length):Bfs bs gone (some (b,i + 1)) (t :: S) (ws ++ [t]):=by
 refine ⟨List.nodup_cons.2 ⟨hs,h.nodup⟩,fun x hx => ?_,fun x hx => ?_,List.mem_cons_of_mem _ h.zero,fun x hx => ?_,fun x hx => ?_,fun x k e => by cases e;exact List.mem_cons_of_mem _ (h.here _ _ rfl)⟩
 ·rcases List.mem_cons.1 hx with rfl | hx
  ·exact hl
  ·exact h.lt x hx
 ·rcases List.mem_cons.1 hx with rfl | hx
  ·exact .step (h.sound b (h.here _ _ rfl)) (List.mem_of_getElem? ht) hg
  ·exact h.sound x hx
 ·rcases List.mem_append.1 hx with hx | hx
  ·exact List.mem_cons_of_mem _ (h.sub x hx)
  ·rw [List.mem_singleton] at hx
   subst hx
   exact List.mem_cons_self ..
 ·rcases List.mem_cons.1 hx with rfl | hx
  ·exact .inl (by simp)
  ·rcases h.closed x hx with h1 | h1
   ·exact .inl (List.mem_append_left _ h1)
   ·right
    intro j y hj hy hi
    by_cases e:x=b
    ·subst e
     have hji:=hi _ rfl
     by_cases e2:j=i
     ·subst e2
      rw [ht] at hj
      cases hj
      exact List.mem_cons_self ..
     ·exact List.mem_cons_of_mem _ (h1 j y hj hy (fun k ek => by cases ek;omega))
    ·exact List.mem_cons_of_mem _ (h1 j y hj hy (fun k ek => by cases ek;exact absurd rfl e))
theorem Bfs.next (h:Bfs bs gone (some (b,i)) S ws) (hi:(succM bs b).length ≤ i):Bfs bs gone none S ws:=by
 refine ⟨h.nodup,h.lt,h.sound,h.zero,h.sub,fun x hx => ?_,fun _ _ e => by cases e⟩
 rcases h.closed x hx with h1 | h1
 ·exact .inl h1
 ·right
  intro j y hj hy _
  refine h1 j y hj hy (fun k ek => ?_)
  cases ek
  have:=(List.getElem?_eq_some_iff.1 hj).1
  omega
theorem Bfs.all (h:Bfs bs gone none S []) (x:Nat):x ∈ S ↔ ReachW bs gone x:=by
 refine ⟨h.sound x,fun hr => ?_⟩
 induction hr with
 | start => exact h.zero
 | step _ hx hg ih =>
  rcases h.closed _ ih with h1 | h1
  ·cases h1
  ·obtain ⟨j,hj⟩:=List.getElem?_of_mem hx
   exact h1 j _ hj hg (fun _ e => by cases e)
theorem OrderIs.reach {o:List Nat} (h:OrderIs bs o) (x:Nat):x ∈ o ↔ ReachW bs (-1) x:=by
 obtain ⟨h0,hn,hc,hp⟩:=h.facts
 constructor
 ·intro hx
  obtain ⟨i,hi⟩:=List.getElem?_of_mem hx
  clear hx
  induction i using Nat.strongRecOn generalizing x with
  | ind i ih =>
   rcases Nat.eq_zero_or_pos i with rfl | hpos
   ·rw [h0] at hi
    cases hi
    exact .start (by decide)
   ·obtain ⟨j,y,hj,hy,hs⟩:=hp i x hpos hi
    exact .step (ih j hj y hy) hs (by omega)
 ·intro hr
  induction hr with
  | start => exact List.mem_of_getElem? h0
  | step _ hx _ ih => exact hc _ ih _ hx
end Go.Proofs.YtaehbgppfahdeaaGreat
namespace Go.Proofs.YtaehbgppfahdeaaGreat
open Go.RowKit Go.Maps
def WorkR (w:World) (base:Nat) (v:Value) (ws:List Nat):Prop :=
 ∃ g off cap cur,v=.slice (some ⟨g,off,none⟩) ws.length cap ∧ base ≤ g ∧ w.heap[g]?=some (.cells cur 3 (0,0)) ∧ ws.length ≤ cap ∧ off + cap ≤ cur.size ∧ cap ≤ maxLen ∧ ∀ i (x:Nat),ws[i]?=some x → cur[off + i]?=some (.int .i64 (x:Int))
theorem WorkR.start {w:World} {base:Nat} (hb:base ≤ w.heap.size):WorkR (w.alloc (.cells #[.int .i64 0] 3)) base (.slice (some ⟨w.heap.size,0,none⟩) 1 1) [0] :=
 ⟨_,0,1,_,rfl,hb,heap_alloc_new w _,Nat.le_refl _,by simp,by decide,fun i x hx => by
  rcases i with _ | i
  ·simp at hx;subst hx;rfl
  ·simp at hx⟩
theorem WorkR.room {w:World} {base g off cap t:Nat} {cur:Array Value} {ws:List Nat} {o:Obj} (hb:base ≤ g) (hg:w.heap[g]?=some (.cells cur 3 (0,0))) (h1:off + cap ≤ cur.size) (h2:cap ≤ maxLen) (h3:∀ i (x:Nat),ws[i]?=some x → cur[off + i]?=some (.int .i64 (x:Int))) (hr:ws.length + 1 ≤ cap) :
  WorkR ((w.alloc o).setCells g (off + ws.length) [.int .i64 (t:Int)]) base (.slice (some ⟨g,off,none⟩) (ws.length + 1) cap) (ws ++ [t]):=by
 have hgl:=(Array.getElem?_eq_some_iff.1 hg).1
 have hg2:(w.alloc o).heap[g]?=some (.cells cur 3 (0,0)):=(Below.heap_alloc w o g hgl).trans hg
 refine ⟨g,off,cap,cur.setIfInBounds (off + ws.length) (.int .i64 (t:Int)),by rw [List.length_append];rfl,hb,?_,by rw [List.length_append];exact hr,by simpa using h1,h2,fun i x hx => ?_⟩
 ·exact heap_setCell_same _ g _ cur _ _ hg2
 ·rw [Array.getElem?_setIfInBounds]
  by_cases hi:i < ws.length
  ·rw [List.getElem?_append_left hi] at hx
   rw [if_neg (by omega)]
   exact h3 i x hx
  ·rw [List.getElem?_append_right (by omega)] at hx
   have hi2:i=ws.length:=by
    have:=(List.getElem?_eq_some_iff.1 hx).1
    simp at this
    omega
   subst hi2
   simp at hx
   subst hx
   rw [if_pos rfl,if_pos (by omega)]
theorem WorkR.own {w:World} {base b0 t:Nat} {v:Value} {ws:List Nat} {xs:List Value} (hown:w.ownsRow b0 3 1 v (ws.length + 1) (xs ++ [.int .i64 (t:Int)])) (hb:base ≤ b0) (hxs:xs=natInts ws):WorkR w base v (ws ++ [t]):=by
 subst hxs
 rcases hown.2 with ⟨_,h⟩ | ⟨g,cap,cur,rfl,hbg,hg,hc,hm,hs,ht⟩
 ·omega
 ·refine ⟨g,0,cap,cur,by rw [List.length_append];rfl,by omega,hg,by rw [List.length_append];exact hc,by omega,hm,fun i x hx => ?_⟩
  have hi:=(List.getElem?_eq_some_iff.1 hx).1
  rw [List.length_append,List.length_singleton] at hi
  have h1:(cur.toList.take ((ws.length + 1) * 1))[i]?=(natInts (ws ++ [t]))[i]?:=by rw [ht];unfold natInts;rw [List.map_append];rfl
  rw [List.getElem?_take,if_pos (by omega)] at h1
  rw [Nat.zero_add,← Array.getElem?_toList,h1]
  unfold natInts
  rw [List.getElem?_map,hx]
  rfl
theorem work_spare {X:World} {g off n:Nat} {cur:Array Value} (hg:X.heap[g]?=some (.cells cur 3 (0,0))) (h:off + n < cur.size) (x:Value):∀ j,j < [x].length → (X.cell? ⟨g,off + n * 1 + j,none⟩).isSome=true ∧ X.frozen? ⟨g,off + n * 1 + j,none⟩=false:=by
 intro j hj
 simp at hj
 subst hj
 rw [Nat.mul_one,Nat.add_zero]
 refine ⟨?_,frozen_of_row X g (off + n) cur _ hg⟩
 rw [row_cells hg rfl,Array.getElem?_eq_getElem h]
 rfl
theorem one_new' (w:World) (a:Addr) (u x:Value):∀ (j:Nat) (y:Value),[x][j]?=some y → ((w.setCell a u).alloc (.cells #[x] 3)).cell? ((⟨w.heap.size,0,none⟩:Addr).add j)=some y:=by
 have:=one_new (w.setCell a u) x
 simpa using this
theorem without_room {wr w1:World} {N n g i t:Nat} {S:List Nat} {o:Obj} {x:Value} (hs:(wr.setCell ⟨N + 1,t,none⟩ (.bool true)).ownsRow (N + 1) 4 1 (.slice (some ⟨N + 1,0,none⟩) n n) n (marks n S)) (hb:Below (N + 1) w1 wr) (hg:N + 2 ≤ g) (hsz:N + 1 ≤ w1.heap.size) :
  (((wr.setCell ⟨N + 1,t,none⟩ (.bool true)).alloc o).setCells g i [x]).ownsRow (N + 1) 4 1 (.slice (some ⟨N + 1,0,none⟩) n n) n (marks n S) ∧ Below (N + 1) w1 (((wr.setCell ⟨N + 1,t,none⟩ (.bool true)).alloc o).setCells g i [x]):=by
 refine ⟨ownsRow_setCell_other (hs.alloc o) (by simp [Value.ownBlock];omega) _,?_⟩
 exact ((hb.setCell (Nat.le_refl _) _).alloc (by have:=hb.size;simp;omega) _).setCell (by simp;omega) _
theorem without_grow {wr w1 w3:World} {N n t:Nat} {S:List Nat} {o:Obj} (hs:(wr.setCell ⟨N + 1,t,none⟩ (.bool true)).ownsRow (N + 1) 4 1 (.slice (some ⟨N + 1,0,none⟩) n n) n (marks n S)) (hb:Below (N + 1) w1 wr) (hsz:N + 1 ≤ w1.heap.size) (hg:((wr.setCell ⟨N + 1,t,none⟩ (.bool true)).alloc o).grownBy w3 none) :
  w3.ownsRow (N + 1) 4 1 (.slice (some ⟨N + 1,0,none⟩) n n) n (marks n S) ∧ Below (N + 1) w1 w3:=by
 refine ⟨(hs.alloc o).kept hg (.inr (by simp [Value.ownBlock])),?_⟩
 exact ((hb.setCell (Nat.le_refl _) _).alloc (by have:=hb.size;simp;omega) _).grown hg (by have:=hb.size;simp;omega) (by simp)
theorem natInts_at {ws:List Nat} {cur:Array Value} {off:Nat} (h:∀ i (x:Nat),ws[i]?=some x → cur[off + i]?=some (.int .i64 (x:Int))) {w:World} {g:Nat} (hg:w.heap[g]?=some (.cells cur 3 (0,0))) :
  ∀ j u,(natInts ws)[j]?=some u → w.cell? ⟨g,off + j,none⟩=some u:=by
 intro j u hu
 unfold natInts at hu
 rw [List.getElem?_map] at hu
 cases hx:ws[j]? with
 | none => rw [hx] at hu;cases hu
 | some x =>
  rw [hx] at hu
  cases hu
  rw [row_cells hg rfl]
  exact h j x hx
def WithoutPost (bs:List BlockM) (gone:Int) (w:World) (e:Ending) (w':World):Prop :=
 ∃ (S:List Nat) (g:Nat),e=.returned (.slice (some ⟨g,0,none⟩) bs.length bs.length) ∧ (∀ x,x ∈ S ↔ ReachW bs gone x) ∧ w'.ownsRow w.heap.size 4 1 (.slice (some ⟨g,0,none⟩) bs.length bs.length) bs.length (marks bs.length S) ∧ Below w.heap.size w w'
theorem no_zero {bs:List BlockM} (x:Nat):x ∈ ([]:List Nat) ↔ ReachW bs 0 x:=by
 constructor
 ·intro h;cases h
 ·intro h
  exfalso
  induction h with
  | start h => exact h rfl
  | step _ _ _ ih => exact ih
set_option maxRecDepth 100000 in
set_option maxHeartbeats 4000000 in
theorem refWithout_any (bs:List BlockM) (B:Nat) (pv av cv bv:Value) (gone:Int) (w:World) (hbv:BlocksR w B bv bs) (hB:B ≤ w.heap.size) (h0:0 < bs.length) (hn5:bs.length ≤ 512) (hin:EndsIn bs) (hg0:gone ≠ 0) :
  Calls Tryz.prog 44 #[.agg #[pv,av,cv,bv],.int .i64 gone] w (WithoutPost bs gone w):=by
 have HBL:=hideI hbv
 have HIN:=hideI hin
 have HG0:=hideI hg0
 obtain ⟨A,c,rfl,hbm,_⟩:=hbv
 obtain ⟨i0,hix,hz0,hz1,hz2⟩:=info_parts bool_info
 have hgb:(gone == 0)=false:=by simpa using hg0
 clear hin hg0
 go_enter Tryz.func44,Tryz.ntmps44
 go_wp2_with (first
  | (at_make;go_must (refine wpList_make_full _ rfl _ _ 91 rfl (w.heap.size + 1) 4 i0 (.bool false) 1 Tryz.underlying91 hix hz0 hz1 .i64 .i64 _ _ bs.length rfl rfl rfl rfl (by rw [hz2];omega) (by unfold maxLen;omega) (by simp) ?_);intro w1 hown1 hg1;rw [World.size_alloc] at hown1;go_must (rw [marks_made] at hown1;have HBX:=hideI ((hg1.block w.heap.size (by simp) (by simp)).trans (heap_alloc_new w _));have HB0:Hid (Below w.heap.size w w1):=((Below.refl _ _).alloc (Nat.le_refl _) _).grown hg1 (by simp) (by simp);have hlt1:w.heap.size + 1 < w1.heap.size:=(hown1.lt _ rfl).2;have HO1:=hideI hown1;have c0:w1.cell? ⟨w.heap.size + 1,0,none⟩=some (.bool (decide (0 ∈ ([]:List Nat)))):=(by rw [World.ownsRow.cellAt hown1 0 (by omega),marks_at h0]);have f0:w1.frozen? ⟨w.heap.size + 1,0,none⟩=false:=World.ownsRow.frozenAt hown1 0;clear hown1 hg1;have hne:=fun (h:bs=[]) => (by rw [h] at h0;simp at h0:False))))
 clear hix hz0 hz1 hz2 hgb
 obtain ⟨ws,hws⟩:∃ ws:World,ws=(w1.setCell ⟨w.heap.size + 1,0,none⟩ (.bool true)).alloc (.cells #[.int .i64 0] 3):=⟨_,rfl⟩
 have HK0:Hid (WorkR ws (w.heap.size + 2) (.slice (some ⟨w1.heap.size,0,none⟩) 1 1) [0]):=by
  show WorkR _ _ _ _
  rw [hws]
  have:=WorkR.start (w:=w1.setCell ⟨w.heap.size + 1,0,none⟩ (.bool true)) (base:=w.heap.size + 2) (by simp;omega)
  simpa using this
 have HOS:Hid (ws.ownsRow (w.heap.size + 1) 4 1 (.slice (some ⟨w.heap.size + 1,0,none⟩) bs.length bs.length) bs.length (marks bs.length [0])):=by
  show World.ownsRow _ _ _ _ _ _ _
  rw [hws]
  have:=(World.ownsRow.stored HO1.out 0 (.bool true)).1.alloc (.cells #[.int .i64 0] 3)
  rwa [marks_set] at this
 have HBS:Hid (Below (w.heap.size + 1) w1 ws):=by show Below _ _ _;rw [hws];exact ((Below.refl _ _).setCell (by simp) _).alloc (by simp;omega) _
 rw [← hws]
 clear hws c0 f0
 go_loopg [6] (2 * bs.length + 2) (fun gk vo wr => ∃ (S ws:List Nat) (v:Value),v=vo ∧ (bs.length - S.length) * 2 + ws.length ≤ gk ∧ gk ≤ 2 * bs.length + 2 ∧ Hid (Bfs bs gone none S ws) ∧ Hid (WorkR wr (w.heap.size + 2) v ws) ∧ Hid (wr.ownsRow (w.heap.size + 1) 4 1 (.slice (some ⟨w.heap.size + 1,0,none⟩) bs.length bs.length) bs.length (marks bs.length S)) ∧ Hid (Below (w.heap.size + 1) w1 wr))
 case atStart => exact ⟨[0],[0],_,rfl,by simp;omega,Nat.le_refl _,hideI (Bfs.start HG0.out h0),HK0,HOS,HBS⟩
 case round =>
  obtain ⟨S,ws,v,rfl,hgk,hgm,HF,HK,HO,HBr⟩:=hrel
  obtain ⟨g,off,cap,cur,rfl,hwb,hwg,hwc,hws,hwm,hwx⟩:=HK.out
  have HWX:=hideI hwx
  have HWG:=hideI hwg
  obtain ⟨L,hL⟩:∃ L,L=ws.length:=⟨_,rfl⟩
  rw [← hL]
  cases ws with
  | nil =>
   obtain rfl:L=0:=hL
   clear hwx hwg
   go_wp2
   go_ret
   exact ⟨S,_,rfl,HF.out.all,World.ownsRow.mono HO.out (by omega),HB0.out.trans (HBr.out.mono (by omega))⟩
  | cons b ws =>
   rw [List.length_cons] at hL
   have hbl:b < bs.length:=HF.out.lt b (HF.out.sub b (List.mem_cons_self ..))
   have hSl:=below_len _ _ HF.out.nodup HF.out.lt
   have hhead:wr.cell? ⟨g,off,none⟩=some (.int .i64 (b:Int)):=by rw [row_cells hwg rfl];exact hwx 0 b rfl
   have HP:=hideI HF.out.pop
   obtain ⟨q,hq⟩:∃ q,bs[b]?=some q:=⟨_,List.getElem?_eq_getElem hbl⟩
   obtain ⟨A',c',e0,_,hbx⟩:=(HBL.out.more' hB).keeps (Keeps.of_below (HB0.out.trans (HBr.out.mono (Nat.le_succ _))))
   cases e0
   obtain ⟨ab,boff,pq,cq,tv,rfl,hab,x0,x1,x2,x3,x4,x5,_,_,htv,_⟩:=hbx b q hq
   have HTV:=hideI htv
   have HQ:=hideI hq
   have HSU:Hid (succM bs b=q.term.to.map Int.toNat):=by show _=_;unfold succM;rw [hq]
   obtain ⟨TA,tc,rfl,htm,_⟩:=htv
   obtain ⟨m,hm⟩:∃ m,m=q.term.to.length:=⟨_,rfl⟩
   have HM:=hideI hm
   rw [← hm] at x4 htm
   have hxr:=row_cells HBX.out (HBr.out.block w.heap.size (by omega))
   have g3:=hxr 3
   simp only [List.length_cons] at hgk hwc
   have HWX1:Hid (∀ i (x:Nat),ws[i]?=some x → cur[off + 1 + i]?=some (.int .i64 (x:Int))):=fun i x hx => by
    have:=HWX.out (i + 1) x (by simpa using hx)
    rwa [show off + (i + 1)=off + 1 + i by omega] at this
   clear hbx hq x0 x1 x2 x3 x5 hm hxr hwx hwg
   have HBo:=HBr
   by_cases hc1:cap=1
   ·subst hc1
    obtain rfl:ws=[]:=List.eq_nil_of_length_eq_zero (by omega)
    obtain rfl:L=1:=hL
    have HK1:Hid (WorkR wr (w.heap.size + 2) (.slice (some ⟨g,off,none⟩) 0 0) []):=⟨g,off,0,cur,rfl,hwb,HWG.out,Nat.le_refl _,by omega,by unfold maxLen;omega,fun i x hx => by simp at hx⟩
    go_wp2
    obtain ⟨wo,rfl⟩:∃ wo:World,wo=wr:=⟨_,rfl⟩
    clear x4 hhead g3
    go_loopw [6,9] (fun vo u wr => ∃ (i:Nat) (S ws:List Nat) (v:Value),v=vo ∧ i ≤ m ∧ u=.int .i64 i ∧ (bs.length - S.length) * 2 + ws.length + 1 ≤ gk ∧ Hid (Bfs bs gone (some (b,i)) S ws) ∧ Hid (WorkR wr (w.heap.size + 2) v ws) ∧ Hid (wr.ownsRow (w.heap.size + 1) 4 1 (.slice (some ⟨w.heap.size + 1,0,none⟩) bs.length bs.length) bs.length (marks bs.length S)) ∧ Hid (Below (w.heap.size + 1) w1 wr)) (fun _ u _ => m - (intOf u).toNat)
    case atStart => exact ⟨0,S,_,_,rfl,Nat.zero_le _,rfl,by simp;omega,HP,HK1,HO,HBr⟩
    case round =>
     obtain ⟨i,S,ws,v,rfl,hi,rfl,hg2,HF,HK,HO,HBr⟩:=hrel
     obtain ⟨g,off,cap,cur,rfl,hwb,hwg,hwc,hws,hwm,hwx⟩:=HK.out
     have hSl:=below_len _ _ HF.out.nodup HF.out.lt
     have hgl:=(Array.getElem?_eq_some_iff.1 hwg).1
     have HWX:=hideI hwx
     have HWG:=hideI hwg
     clear hwx hwg
     by_cases hlt:i < m
     ·obtain ⟨t,ht⟩:∃ t,q.term.to[i]?=some t:=⟨_,List.getElem?_eq_getElem (by rw [HM.out] at hlt;exact hlt)⟩
      have htn:=HIN.out q (List.mem_of_getElem? HQ.out) t (List.mem_of_getElem? ht)
      obtain ⟨tn,rfl⟩:∃ tn:Nat,t=(tn:Int):=⟨t.toNat,by omega⟩
      have htl:tn < bs.length:=by omega
      have HTI:Hid ((succM bs b)[i]?=some tn):=by
       show _=_
       rw [HSU.out,List.getElem?_map,ht]
       rfl
      obtain ⟨TA',tc',e0,_,hxx⟩:=(HTV.out.keeps (Keeps.refl _))
      cases e0
      obtain ⟨tb,toff,rfl,htb,hcell0⟩:=hxx i (by rw [← HM.out];exact hlt)
      rw [ht] at hcell0
      simp only [Option.getD_some] at hcell0
      have hcell:wr.cell? ⟨tb,toff + i,none⟩=some (.int .i64 (tn:Int)):=by
       rw [← hcell0]
       exact World.cell?_of_block (a:=⟨tb,toff + i,none⟩) ((HBr.out.block tb (by omega)).trans (HBo.out.block tb (by omega)).symm)
      have hmk:wr.cell? ⟨w.heap.size + 1,tn,none⟩=some (.bool (decide (tn ∈ S))):=by rw [World.ownsRow.cellAt HO.out tn (by omega),marks_at htl]
      have hmf:wr.frozen? ⟨w.heap.size + 1,tn,none⟩=false:=World.ownsRow.frozenAt HO.out tn
      have hne1:tb ≠ w.heap.size + 1:=by omega
      clear hxx ht htn hcell0
      by_cases hin2:tn ∈ S
      ·have HIN2:=hideI hin2
       rw [show decide (tn ∈ S)=true from by simpa using hin2] at hmk
       clear hin2 hmf
       go_wp2
       go_roundw
       case rel => exact ⟨i + 1,S,ws,_,rfl,by omega,by go_num,hg2,hideI (HF.out.skip HTI.out (.inl HIN2.out)),HK,HO,HBr⟩
       case measure => simp [intOf];omega
      ·have HIN2:=hideI hin2
       rw [show decide (tn ∈ S)=false from by simpa using hin2] at hmk
       have HSL:=hideI (fresh_len HF.out.nodup HF.out.lt htl hin2)
       clear hin2
       by_cases htg:(tn:Int)=gone
       ·have HTG:=hideI htg
        have e1:((tn:Int) != gone)=false:=by simpa using htg
        clear htg hmf
        go_wp2
        go_roundw
        case rel => exact ⟨i + 1,S,ws,_,rfl,by omega,by go_num,hg2,hideI (HF.out.skip HTI.out (.inr HTG.out)),HK,HO,HBr⟩
        case measure => simp [intOf];omega
       ·have HTG:=hideI htg
        have e1:((tn:Int) != gone)=true:=by simpa using htg
        clear htg
        have HS:=World.ownsRow.stored HO.out tn (.bool true)
        rw [marks_set] at HS
        have HOS:=hideI HS.1
        have HGS:=hideI HS.2
        have HFN:=hideI (HF.out.push HTI.out HIN2.out HTG.out htl)
        have hgne:g ≠ w.heap.size + 1:=by omega
        have HWG2:=hideI ((HGS.out.block g hgl (by simpa using hgne)).trans HWG.out)
        have hlen:(bs.length - (tn :: S).length) * 2 + (ws ++ [tn]).length + 1 ≤ gk:=by have:=HSL.out;simp;omega
        have HLEN:=hideI hlen
        have hwl:ws.length ≤ 2000:=by omega
        obtain ⟨i1,hjx,hy0,hy1,hy2⟩:=info_parts int_info
        clear HS hlen
        have HWG3:Hid (((wr.setCell ⟨w.heap.size + 1,tn,none⟩ (.bool true)).alloc (.cells #[.int .i64 (tn:Int)] 3)).heap[g]?=some (.cells cur 3 (0,0))):=(Below.heap_alloc _ _ g (by simpa using hgl)).trans HWG2.out
        by_cases hrm:ws.length + 1 ≤ cap
        ·have HSP:=hideI (work_spare HWG3.out (n:=ws.length) (off:=off) (by omega) (.int .i64 (tn:Int)))
         have HWB:=hideI (without_room (i:=off + ws.length) (o:=.cells #[.int .i64 (tn:Int)] 3) (x:=.int .i64 (tn:Int)) HOS.out HBr.out hwb (by omega))
         have HWN:=hideI (WorkR.room (t:=tn) (o:=.cells #[.int .i64 (tn:Int)] 3) hwb HWG2.out hws hwm HWX.out hrm)
         go_wp2_with (at_builtin;go_must (refine wpList_append_arg _ rfl _ _ _ rfl 3 i1 (.int .i64 0) 1 8 Tryz.underlying22 hjx hy0 hy1 hy2 rfl (by decide) g off ws.length cap (natInts ws) rfl (by unfold natInts;simp) (natInts_at HWX.out HWG3.out) ⟨wr.heap.size,0,none⟩ 1 1 [.int .i64 tn] rfl rfl (one_new' _ _ _ _) (by simp [Value.oneCell']) (fun _ => HSP.out) (by simp only [maxLen];omega) (by omega) (fun _ => ?_) (fun h => absurd h (by omega))))
         go_roundw
         case rel => exact ⟨i + 1,tn :: S,ws ++ [tn],_,rfl,by omega,by go_num,HLEN.out,HFN,HWN,hideI HWB.out.1,hideI HWB.out.2⟩
         case measure => simp [intOf];omega
        ·go_wp2_with (at_builtin;go_must (refine wpList_append_arg _ rfl _ _ _ rfl 3 i1 (.int .i64 0) 1 8 Tryz.underlying22 hjx hy0 hy1 hy2 rfl (by decide) g off ws.length cap (natInts ws) rfl (by unfold natInts;simp) (natInts_at HWX.out HWG3.out) ⟨wr.heap.size,0,none⟩ 1 1 [.int .i64 tn] rfl rfl (one_new' _ _ _ _) (by simp [Value.oneCell']) (fun h => absurd h (by omega)) (by simp only [maxLen];omega) (by omega) (fun h => absurd h (by omega)) (fun _ v2 w3 hown3 hg3 => ?_));have HWN:=hideI (WorkR.own hown3 (base:=w.heap.size + 2) (by simp;omega) rfl);have HWB:=hideI (without_grow HOS.out HBr.out (by omega) hg3);clear hown3 hg3)
         go_roundw
         case rel => exact ⟨i + 1,tn :: S,ws ++ [tn],v2,rfl,by omega,by go_num,HLEN.out,HFN,HWN,hideI HWB.out.1,hideI HWB.out.2⟩
         case measure => simp [intOf];omega
     ·have HF2:=hideI (HF.out.next (by rw [HSU.out,List.length_map,← HM.out];omega))
      go_wp2
      go_roundg ((bs.length - S.length) * 2 + ws.length)
      case rel => exact ⟨S,ws,_,rfl,Nat.le_refl _,by omega,HF2,HK,HO,HBr⟩
      case measure => omega
   ·have HK1:Hid (WorkR wr (w.heap.size + 2) (.slice (some ⟨g,off + 1,none⟩) (L - 1) (cap - 1)) ws):=⟨g,off + 1,cap - 1,cur,by rw [hL];rfl,hwb,HWG.out,by omega,by omega,by omega,HWX1.out⟩
    have hLp:1 ≤ L:=by omega
    have hLb:decide (0 < L)=true:=by simp;omega
    have hcp:¬ cap ≤ 1:=by omega
    have HLL:=hideI hL
    clear hL
    go_wp2
    obtain ⟨wo,rfl⟩:∃ wo:World,wo=wr:=⟨_,rfl⟩
    clear x4 hhead g3
    go_loopw [6,9] (fun vo u wr => ∃ (i:Nat) (S ws:List Nat) (v:Value),v=vo ∧ i ≤ m ∧ u=.int .i64 i ∧ (bs.length - S.length) * 2 + ws.length + 1 ≤ gk ∧ Hid (Bfs bs gone (some (b,i)) S ws) ∧ Hid (WorkR wr (w.heap.size + 2) v ws) ∧ Hid (wr.ownsRow (w.heap.size + 1) 4 1 (.slice (some ⟨w.heap.size + 1,0,none⟩) bs.length bs.length) bs.length (marks bs.length S)) ∧ Hid (Below (w.heap.size + 1) w1 wr)) (fun _ u _ => m - (intOf u).toNat)
    case atStart => exact ⟨0,S,_,_,rfl,Nat.zero_le _,rfl,by omega,HP,HK1,HO,HBr⟩
    case round =>
     obtain ⟨i,S,ws,v,rfl,hi,rfl,hg2,HF,HK,HO,HBr⟩:=hrel
     obtain ⟨g,off,cap,cur,rfl,hwb,hwg,hwc,hws,hwm,hwx⟩:=HK.out
     have hSl:=below_len _ _ HF.out.nodup HF.out.lt
     have hgl:=(Array.getElem?_eq_some_iff.1 hwg).1
     have HWX:=hideI hwx
     have HWG:=hideI hwg
     clear hwx hwg
     by_cases hlt:i < m
     ·obtain ⟨t,ht⟩:∃ t,q.term.to[i]?=some t:=⟨_,List.getElem?_eq_getElem (by rw [HM.out] at hlt;exact hlt)⟩
      have htn:=HIN.out q (List.mem_of_getElem? HQ.out) t (List.mem_of_getElem? ht)
      obtain ⟨tn,rfl⟩:∃ tn:Nat,t=(tn:Int):=⟨t.toNat,by omega⟩
      have htl:tn < bs.length:=by omega
      have HTI:Hid ((succM bs b)[i]?=some tn):=by
       show _=_
       rw [HSU.out,List.getElem?_map,ht]
       rfl
      obtain ⟨TA',tc',e0,_,hxx⟩:=(HTV.out.keeps (Keeps.refl _))
      cases e0
      obtain ⟨tb,toff,rfl,htb,hcell0⟩:=hxx i (by rw [← HM.out];exact hlt)
      rw [ht] at hcell0
      simp only [Option.getD_some] at hcell0
      have hcell:wr.cell? ⟨tb,toff + i,none⟩=some (.int .i64 (tn:Int)):=by
       rw [← hcell0]
       exact World.cell?_of_block (a:=⟨tb,toff + i,none⟩) ((HBr.out.block tb (by omega)).trans (HBo.out.block tb (by omega)).symm)
      have hmk:wr.cell? ⟨w.heap.size + 1,tn,none⟩=some (.bool (decide (tn ∈ S))):=by rw [World.ownsRow.cellAt HO.out tn (by omega),marks_at htl]
      have hmf:wr.frozen? ⟨w.heap.size + 1,tn,none⟩=false:=World.ownsRow.frozenAt HO.out tn
      have hne1:tb ≠ w.heap.size + 1:=by omega
      clear hxx ht htn hcell0
      by_cases hin2:tn ∈ S
      ·have HIN2:=hideI hin2
       rw [show decide (tn ∈ S)=true from by simpa using hin2] at hmk
       clear hin2 hmf
       go_wp2
       go_roundw
       case rel => exact ⟨i + 1,S,ws,_,rfl,by omega,by go_num,hg2,hideI (HF.out.skip HTI.out (.inl HIN2.out)),HK,HO,HBr⟩
       case measure => simp [intOf];omega
      ·have HIN2:=hideI hin2
       rw [show decide (tn ∈ S)=false from by simpa using hin2] at hmk
       have HSL:=hideI (fresh_len HF.out.nodup HF.out.lt htl hin2)
       clear hin2
       by_cases htg:(tn:Int)=gone
       ·have HTG:=hideI htg
        have e1:((tn:Int) != gone)=false:=by simpa using htg
        clear htg hmf
        go_wp2
        go_roundw
        case rel => exact ⟨i + 1,S,ws,_,rfl,by omega,by go_num,hg2,hideI (HF.out.skip HTI.out (.inr HTG.out)),HK,HO,HBr⟩
        case measure => simp [intOf];omega
       ·have HTG:=hideI htg
        have e1:((tn:Int) != gone)=true:=by simpa using htg
        clear htg
        have HS:=World.ownsRow.stored HO.out tn (.bool true)
        rw [marks_set] at HS
        have HOS:=hideI HS.1
        have HGS:=hideI HS.2
        have HFN:=hideI (HF.out.push HTI.out HIN2.out HTG.out htl)
        have hgne:g ≠ w.heap.size + 1:=by omega
        have HWG2:=hideI ((HGS.out.block g hgl (by simpa using hgne)).trans HWG.out)
        have hlen:(bs.length - (tn :: S).length) * 2 + (ws ++ [tn]).length + 1 ≤ gk:=by have:=HSL.out;simp;omega
        have HLEN:=hideI hlen
        have hwl:ws.length ≤ 2000:=by omega
        obtain ⟨i1,hjx,hy0,hy1,hy2⟩:=info_parts int_info
        clear HS hlen
        have HWG3:Hid (((wr.setCell ⟨w.heap.size + 1,tn,none⟩ (.bool true)).alloc (.cells #[.int .i64 (tn:Int)] 3)).heap[g]?=some (.cells cur 3 (0,0))):=(Below.heap_alloc _ _ g (by simpa using hgl)).trans HWG2.out
        by_cases hrm:ws.length + 1 ≤ cap
        ·have HSP:=hideI (work_spare HWG3.out (n:=ws.length) (off:=off) (by omega) (.int .i64 (tn:Int)))
         have HWB:=hideI (without_room (i:=off + ws.length) (o:=.cells #[.int .i64 (tn:Int)] 3) (x:=.int .i64 (tn:Int)) HOS.out HBr.out hwb (by omega))
         have HWN:=hideI (WorkR.room (t:=tn) (o:=.cells #[.int .i64 (tn:Int)] 3) hwb HWG2.out hws hwm HWX.out hrm)
         go_wp2_with (at_builtin;go_must (refine wpList_append_arg _ rfl _ _ _ rfl 3 i1 (.int .i64 0) 1 8 Tryz.underlying22 hjx hy0 hy1 hy2 rfl (by decide) g off ws.length cap (natInts ws) rfl (by unfold natInts;simp) (natInts_at HWX.out HWG3.out) ⟨wr.heap.size,0,none⟩ 1 1 [.int .i64 tn] rfl rfl (one_new' _ _ _ _) (by simp [Value.oneCell']) (fun _ => HSP.out) (by simp only [maxLen];omega) (by omega) (fun _ => ?_) (fun h => absurd h (by omega))))
         go_roundw
         case rel => exact ⟨i + 1,tn :: S,ws ++ [tn],_,rfl,by omega,by go_num,HLEN.out,HFN,HWN,hideI HWB.out.1,hideI HWB.out.2⟩
         case measure => simp [intOf];omega
        ·go_wp2_with (at_builtin;go_must (refine wpList_append_arg _ rfl _ _ _ rfl 3 i1 (.int .i64 0) 1 8 Tryz.underlying22 hjx hy0 hy1 hy2 rfl (by decide) g off ws.length cap (natInts ws) rfl (by unfold natInts;simp) (natInts_at HWX.out HWG3.out) ⟨wr.heap.size,0,none⟩ 1 1 [.int .i64 tn] rfl rfl (one_new' _ _ _ _) (by simp [Value.oneCell']) (fun h => absurd h (by omega)) (by simp only [maxLen];omega) (by omega) (fun h => absurd h (by omega)) (fun _ v2 w3 hown3 hg3 => ?_));have HWN:=hideI (WorkR.own hown3 (base:=w.heap.size + 2) (by simp;omega) rfl);have HWB:=hideI (without_grow HOS.out HBr.out (by omega) hg3);clear hown3 hg3)
         go_roundw
         case rel => exact ⟨i + 1,tn :: S,ws ++ [tn],v2,rfl,by omega,by go_num,HLEN.out,HFN,HWN,hideI HWB.out.1,hideI HWB.out.2⟩
         case measure => simp [intOf];omega
     ·have HF2:=hideI (HF.out.next (by rw [HSU.out,List.length_map,← HM.out];omega))
      go_wp2
      go_roundg ((bs.length - S.length) * 2 + ws.length)
      case rel => exact ⟨S,ws,_,rfl,Nat.le_refl _,by omega,HF2,HK,HO,HBr⟩
      case measure => omega
end Go.Proofs.YtaehbgppfahdeaaGreat

namespace Go.Proofs.YtaehbgppfahdeaaGreat
open Go.RowKit Go.Maps
def OverP (bs:List BlockM) (o:List Nat) (a b:Nat):Prop:=a ∈ o ∧ b ∈ o ∧ ¬ ReachW bs (a:Int) b
theorem way_reach {bs:List BlockM} {pl:Nat → Nat} {x b:Nat}:(∃ k,Way (succM bs) pl x b k) ↔ ReachW bs (x:Int) b:=by
 constructor
 ·rintro ⟨k,w⟩
  induction w with
  | start h => exact .start (by omega)
  | fwd _ e n _ ih => exact .step ih e (by omega)
  | back _ e n _ ih => exact .step ih e (by omega)
 ·intro h
  induction h with
  | start h => exact ⟨0,.start (by omega)⟩
  | step _ hx hg ih =>
   obtain ⟨k,w⟩:=ih
   exact w.next hx (by omega)
theorem dom_reach {bs:List BlockM} {pl:Nat → Nat} {x b:Nat}:Dom (succM bs) pl x b ↔ ¬ ReachW bs (x:Int) b:=by
 rw [← way_reach (pl:=pl)]
 exact ⟨fun h ⟨k,w⟩ => h k w,fun h k w => h ⟨k,w⟩⟩
theorem over_anc {bs:List BlockM} {o:List Nat} {pl:Nat → Nat} {par:Nat → Option Nat} (hO:Ord (succM bs) o pl) (hD:Done (succM bs) o pl par) {a b:Nat} (hb:b ∈ o):OverP bs o a b ↔ Anc par a b:=by
 unfold OverP
 rw [← dom_reach (pl:=pl),← hD.is b hb a]
 exact ⟨fun h => h.2.2,fun h => ⟨hD.tree.anc_mem hO h (hD.grown b hb),hb,h⟩⟩
theorem OverP.refl {bs:List BlockM} {o:List Nat} {a:Nat} (h:a ∈ o):OverP bs o a a:=by
 refine ⟨h,h,fun hr => ?_⟩
 cases hr with
 | start h => exact h rfl
 | step _ _ hg => exact hg rfl
end Go.Proofs.YtaehbgppfahdeaaGreat
