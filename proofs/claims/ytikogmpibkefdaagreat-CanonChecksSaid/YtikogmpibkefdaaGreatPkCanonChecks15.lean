/- What CanonChecks rests on, part 15: RefCheck, SCheckM, StrictIs, LFunc. -/
import Derived.Test.YtikogmpibkefdaaGreatPkCanonChecks14
import Derived.IntWalk
import Derived.Deep.RegionHeld3

namespace Go.Proofs.YtikogmpibkefdaaGreat
open Go.RowKit
def Found (xs:List Int) (n r:Int):Prop:=(r=-1 ∧ n ∉ xs) ∨ ∃ k:Nat,r=k ∧ xs[k]?=some n
def FindPost (xs:List Int) (n:Int) (w:World) (e:Ending) (w':World):Prop:=∃ r,e=.returned (.int .i64 r) ∧ Found xs n r ∧ w=w'
def Lies (xs:List Int) (n:Int) (a b:Nat):Prop:=∀ j,xs[j]?=some n → a ≤ j ∧ j < b
theorem lies_up {xs:List Int} {n x:Int} {a b m:Nat} (hr:xs.Pairwise (· < ·)) (h:Lies xs n a b) (hm:xs[m]?=some x) (hx:x < n):Lies xs n (m + 1) b:=by
 intro j hj
 refine ⟨?_,(h j hj).2⟩
 obtain ⟨h1,rfl⟩:=List.getElem?_eq_some_iff.1 hm
 obtain ⟨h2,rfl⟩:=List.getElem?_eq_some_iff.1 hj
 rcases Nat.lt_trichotomy j m with hjm | rfl | hjm
 ·have:=List.pairwise_iff_getElem.1 hr j m h2 h1 hjm
  omega
 ·omega
 ·omega
theorem lies_down {xs:List Int} {n x:Int} {a b m:Nat} (hr:xs.Pairwise (· < ·)) (h:Lies xs n a b) (hm:xs[m]?=some x) (hx:n < x):Lies xs n a m:=by
 intro j hj
 refine ⟨(h j hj).1,?_⟩
 obtain ⟨h1,rfl⟩:=List.getElem?_eq_some_iff.1 hm
 obtain ⟨h2,rfl⟩:=List.getElem?_eq_some_iff.1 hj
 rcases Nat.lt_trichotomy j m with hjm | rfl | hjm
 ·omega
 ·omega
 ·have:=List.pairwise_iff_getElem.1 hr m j h1 h2 hjm
  omega
set_option maxHeartbeats 800000 in
theorem find_any (w:World) (B:Nat) (v:Value) (xs:List Int) (n:Int) (hx:Ints w B v xs) (hr:xs.Pairwise (· < ·)) (hl:xs.length ≤ 100000) :
  Calls Tryz.prog 62 #[v,.int .i64 n] w (FindPost xs n w):=by
 obtain ⟨A,c,rfl,hm,hx⟩:=hx
 have Hx:=hideI hx
 have HR:=hideI hr
 clear hx hr
 go_enter Tryz.func62,Tryz.ntmps62
 go_wp2
 go_loopw [5,6] (fun i o wr => ∃ a b:Nat,a ≤ b ∧ b ≤ xs.length ∧ i=.int .i64 a ∧ o=.int .i64 b ∧ Lies xs n a b ∧ wr=w) (fun i o _ => (intOf o).toNat - (intOf i).toNat)
 case atStart =>
  refine ⟨0,xs.length,Nat.zero_le _,Nat.le_refl _,rfl,rfl,?_,rfl⟩
  intro j hj
  obtain ⟨h,_⟩:=List.getElem?_eq_some_iff.1 hj
  exact ⟨Nat.zero_le _,h⟩
 case round =>
  obtain ⟨a,b,hab,hb,rfl,rfl,hL,rfl⟩:=hrel
  have HL:=hideI hL
  clear hL
  by_cases hlt:a < b
  ·obtain ⟨m,hm1⟩:∃ m,m=(a + b) / 2:=⟨_,rfl⟩
   have hm2:a ≤ m ∧ m < b:=by omega
   have hq:((a:Int) + (b:Int)).tdiv 2=(m:Int):=by rw [hm1,Int.tdiv_eq_ediv_of_nonneg (by omega)];omega
   clear hm1
   obtain ⟨g,off,rfl,hg,hc⟩:=Hx.out m (by omega)
   obtain ⟨x,hx⟩:∃ x,xs[m]?=some x:=⟨_,List.getElem?_eq_getElem (by omega)⟩
   rw [hx] at hc
   simp only [Option.getD_some] at hc
   have HX:=hideI hx
   clear hx
   cases he:x == n
   ·cases hs:decide (x < n)
    ·go_wp2
     go_roundw
     case rel => exact ⟨a,m,by omega,by omega,by go_num,by go_num,lies_down HR.out HL.out HX.out (by have h1:=of_decide_eq_false hs;have h2:x ≠ n:=(by simpa using he);omega),trivial⟩
     case measure => simp [intOf];omega
    ·go_wp2
     go_roundw
     case rel => exact ⟨m + 1,b,by omega,by omega,by go_num,by go_num,lies_up HR.out HL.out HX.out (of_decide_eq_true hs),trivial⟩
     case measure => simp [intOf];omega
   ·have hxn:x=n:=by simpa using he
    have HXN:=hideI hxn
    clear hxn
    go_wp2
    go_ret
    exact ⟨_,rfl,.inr ⟨m,rfl,by rw [HX.out,HXN.out]⟩,rfl⟩
  ·go_wp2
   go_ret
   refine ⟨_,rfl,.inl ⟨rfl,fun hn => ?_⟩,rfl⟩
   obtain ⟨j,hj⟩:=List.getElem?_of_mem hn
   have:=HL.out j hj
   omega
end Go.Proofs.YtikogmpibkefdaaGreat
namespace Go.Proofs.YtikogmpibkefdaaGreat
open Go.RowKit
theorem fits_eq {f:FuncM} {op n:Int} (h:isOp op=true):fitsR f (kindS op) n=fitsB f op n:=by
 unfold fitsR fitsB mostR withinB
 rcases op_cases op with h1 | h1 | h1
 ·rcases h1 with rfl | rfl | rfl | rfl | rfl | rfl | rfl | rfl | rfl | rfl | rfl | rfl | rfl <;> simp [kindS,shapeS] <;> (rw [Bool.eq_iff_iff];simp;omega)
 ·rcases h1 with rfl | rfl | rfl | rfl | rfl | rfl | rfl | rfl | rfl | rfl | rfl | rfl <;> simp [kindS,shapeS] <;> (rw [Bool.eq_iff_iff];simp;omega)
 ·unfold isOp at h
  rw [shapeS_none h1] at h
  cases h
def addsB (np:Nat):Defs → List (Int × Int) → Bool
 | _,[] => true
 | ds,d :: r => defB np ds d.1 && addsB np (ds ++ [d]) r
theorem adds_app (np:Nat):∀ (l r ds:List (Int × Int)),addsB np ds (l ++ r)=(addsB np ds l && addsB np (ds ++ l) r):=by
 intro l
 induction l with
 | nil => intro r ds;simp [addsB]
 | cons d l ih =>
  intro r ds
  simp only [List.cons_append,addsB,ih,List.append_assoc,Bool.and_assoc]
  rfl
theorem phis_adds (f:FuncM):∀ (l:List PhiM) (ds:Defs),phisStep f ds l=if l.all (phiB f) && addsB f.params.length ds (l.map fun p => (p.id,p.typ)) then some (ds ++ l.map fun p => (p.id,p.typ)) else none:=by
 intro l
 induction l with
 | nil => intro ds;simp [phisStep,addsB]
 | cons p l ih =>
  intro ds
  unfold phisStep phiStep addDef
  simp only [List.all_cons,List.map_cons,addsB]
  cases h1:phiB f p
  ·simp
  ·cases h2:defB f.params.length ds p.id
   ·simp
   ·simp only [if_pos,Option.bind_some,ih,Bool.true_and,List.append_assoc]
    rfl
theorem makes_cases (op:Int):makesS op=0 ∨ 0 < makesS op:=by
 unfold makesS
 rcases op_cases op with h1 | h1 | h1
 ·rcases h1 with rfl | rfl | rfl | rfl | rfl | rfl | rfl | rfl | rfl | rfl | rfl | rfl | rfl <;> simp [shapeS]
 ·rcases h1 with rfl | rfl | rfl | rfl | rfl | rfl | rfl | rfl | rfl | rfl | rfl | rfl <;> simp [shapeS]
 ·rw [shapeS_none h1];simp
theorem instr_adds (f:FuncM) (ds:Defs) (x:InstrM):instrStep f ds x=if instrR f x && addsB f.params.length ds (valuesInstr x) then some (ds ++ valuesInstr x) else none:=by
 unfold instrStep instrR valuesInstr instrB addDef
 cases h0:isOp x.op
 ·simp
 ·rw [fits_eq h0]
  cases h1:x.args.length == (takesS x.op).length
  ·simp
  ·cases h2:fitsB f x.op x.n
   ·simp
   ·rcases makes_cases x.op with h3 | h3
    ·rw [h3]
     by_cases h4:x.id=-1
     ·simp [h4,addsB]
     ·simp [h4]
    ·have h4:¬ makesS x.op=0:=by omega
     have h5:(makesS x.op == 0)=false:=by simpa using h4
     simp [h3,h4,h5,addsB]
theorem code_adds (f:FuncM):∀ (l:List InstrM) (ds:Defs),codeStep f ds l=if l.all (instrR f) && addsB f.params.length ds (l.flatMap valuesInstr) then some (ds ++ l.flatMap valuesInstr) else none:=by
 intro l
 induction l with
 | nil => intro ds;simp [codeStep,addsB]
 | cons p l ih =>
  intro ds
  unfold codeStep
  rw [instr_adds]
  simp only [List.all_cons,List.flatMap_cons,adds_app]
  cases h1:instrR f p
  ·simp
  ·cases h2:addsB f.params.length ds (valuesInstr p)
   ·simp
   ·simp only [Bool.true_and,if_pos,Option.bind_some,ih,List.append_assoc]
theorem block_adds (f:FuncM) (ds:Defs) (q:BlockM):blockStep f ds q=if blockR f q && addsB f.params.length ds (valuesBlock q) then some (ds ++ valuesBlock q) else none:=by
 unfold blockStep blockR valuesBlock
 rw [phis_adds,adds_app]
 cases h1:q.phis.all (phiB f)
 ·simp
 ·cases h2:addsB f.params.length ds (q.phis.map fun p => (p.id,p.typ))
  ·simp
  ·simp only [Bool.true_and,if_pos,Option.bind_some,code_adds]
   cases h3:q.code.all (instrR f)
   ·simp
   ·cases h4:addsB f.params.length (ds ++ q.phis.map fun p => (p.id,p.typ)) (q.code.flatMap valuesInstr)
    ·simp
    ·cases h5:termB f q.term <;> simp
theorem blocks_adds (f:FuncM):∀ (l:List BlockM) (ds:Defs),blocksStep f ds l=if l.all (blockR f) && addsB f.params.length ds (l.flatMap valuesBlock) then some (ds ++ l.flatMap valuesBlock) else none:=by
 intro l
 induction l with
 | nil => intro ds;simp [blocksStep,addsB]
 | cons p l ih =>
  intro ds
  unfold blocksStep
  rw [block_adds]
  simp only [List.all_cons,List.flatMap_cons,adds_app]
  cases h1:blockR f p
  ·simp
  ·cases h2:addsB f.params.length ds (valuesBlock p)
   ·simp
   ·simp only [Bool.true_and,if_pos,Option.bind_some,ih,List.append_assoc]
theorem formed_adds (f:FuncM):formedM f=if formedR f && addsB f.params.length (paramDefs 0 f.params) (f.blocks.flatMap valuesBlock) then some (valuesM f) else none:=by
 unfold formedM formedR headR valuesM
 rw [blocks_adds]
 cases h1:limitsB f
 ·simp
 ·cases h2:f.params.all isTypeB
  ·simp
  ·cases h3:(f.blocks.headD ⟨[],[],⟨0,0,[],0⟩⟩).phis.isEmpty
   ·simp
   ·simp
theorem def_iff {np:Nat} {ds:Defs} {id:Int}:defB np ds id=true ↔ id ∉ ds.map (·.1) ∧ (np:Int) ≤ id ∧ id < 1048576:=by
 unfold defB withinB
 simp only [Bool.and_eq_true,Bool.not_eq_true',decide_eq_true_eq]
 rw [← at_some]
 cases (ds.at id).isSome <;> simp <;> omega
theorem adds_iff {np:Nat}:∀ (l:List (Int × Int)) (ds:Defs),(ds.map (·.1)).Nodup → (addsB np ds l=true ↔ (∀ d ∈ l,(np:Int) ≤ d.1 ∧ d.1 < 1048576) ∧ ((ds ++ l).map (·.1)).Nodup):=by
 intro l
 induction l with
 | nil => intro ds h;simp [addsB,h]
 | cons d l ih =>
  intro ds h
  unfold addsB
  rw [Bool.and_eq_true,def_iff]
  have happ:ds ++ d :: l=(ds ++ [d]) ++ l:=by simp
  constructor
  ·rintro ⟨⟨h1,h2⟩,h3⟩
   have hn:((ds ++ [d]).map (·.1)).Nodup:=by
    rw [List.map_append,List.nodup_append]
    refine ⟨h,by simp,fun a ha b hb => ?_⟩
    simp at hb
    subst hb
    intro e
    subst e
    exact h1 ha
   obtain ⟨h4,h5⟩:=(ih _ hn).1 h3
   rw [happ]
   refine ⟨fun e he => ?_,h5⟩
   rcases List.mem_cons.1 he with rfl | he
   ·exact h2
   ·exact h4 e he
  ·rintro ⟨h1,h2⟩
   rw [happ] at h2
   have hn:((ds ++ [d]).map (·.1)).Nodup:=by
    rw [List.map_append] at h2
    exact (List.nodup_append.1 h2).1
   refine ⟨⟨?_,h1 d (List.mem_cons_self ..)⟩,(ih _ hn).2 ⟨fun e he => h1 e (List.mem_cons_of_mem _ he),h2⟩⟩
   rw [List.map_append,List.nodup_append] at hn
   exact fun hm => hn.2.2 _ hm d.1 (by simp) rfl
theorem idsOk_adds {f:FuncM}:addsB f.params.length (paramDefs 0 f.params) (f.blocks.flatMap valuesBlock)=true ↔ IdsOk f:=by
 rw [adds_iff _ _ (paramDefs_nodup _ _)]
 unfold IdsOk RangeTo
 have hv:valuesM f=paramDefs 0 f.params ++ f.blocks.flatMap valuesBlock:=rfl
 have hpl:=paramDefs_len f.params 0
 rw [← hv]
 refine and_congr ?_ Iff.rfl
 constructor
 ·intro h j d hj hd hp
  rw [hv,List.getElem?_append_right (by omega)] at hd
  exact h d (List.mem_of_getElem? hd)
 ·intro h d hd
  obtain ⟨i,hi⟩:=List.getElem?_of_mem hd
  have h2:(valuesM f)[f.params.length + i]?=some d:=by
   rw [hv,List.getElem?_append_right (by omega)]
   rw [hpl,Nat.add_sub_cancel_left]
   exact hi
  obtain ⟨h3,_⟩:=List.getElem?_eq_some_iff.1 h2
  exact h _ d h3 h2 (by omega)
theorem formed_no {f:FuncM} (h:formedR f=false):formedM f=none:=by rw [formed_adds,h];rfl
theorem formed_ids_no {f:FuncM} (h:¬ IdsOk f):formedM f=none:=by
 rw [formed_adds]
 cases ha:addsB f.params.length (paramDefs 0 f.params) (f.blocks.flatMap valuesBlock)
 ·simp
 ·exact absurd (idsOk_adds.1 ha) h
theorem formed_yes {f:FuncM} (h:formedR f=true) (h2:IdsOk f):formedM f=some (valuesM f):=by
 rw [formed_adds,h,idsOk_adds.2 h2]
 rfl
end Go.Proofs.YtikogmpibkefdaaGreat
namespace Go.Proofs.YtikogmpibkefdaaGreat
open Go.RowKit
theorem form_bd {f:FuncM} {ds:Defs} (h:formedM f=some ds):limitsB f=true:=by
 unfold formedM at h
 split at h
 ·rename_i hc
  simp only [Bool.and_eq_true] at hc
  exact hc.1.1
 ·cases h
theorem form_few {f:FuncM} {ds:Defs} (h:formedM f=some ds):Few f.blocks:=by
 have hb:=limits_bd (form_bd h)
 have h1:=right_blocks (by omega) f.blocks (formed_all h).1
 unfold Few
 omega
theorem form_form {f:FuncM} {ds:Defs} (h:formedM f=some ds):∀ b ∈ f.blocks,∀ x ∈ b.code,x.args.length=(takesS x.op).length:=by
 intro b hb x hx
 have h1:=((formed_all h).1 b hb).2 x hx
 unfold instrB at h1
 simp only [Bool.and_eq_true,beq_iff_eq] at h1
 exact h1.2.1
theorem form_phi {f:FuncM} {ds:Defs} (h:formedM f=some ds):∀ b ∈ f.blocks,∀ p ∈ b.phis,p.vals.length=p.fr.length:=by
 intro b hb x hx
 have h1:=((formed_all h).1 b hb).1 x hx
 unfold phiB at h1
 simp only [Bool.and_eq_true,beq_iff_eq] at h1
 exact h1.2.1
theorem form_fewv {f:FuncM} (h:limitsB f=true):FewV f:=by
 have hb:=limits_bd h
 exact ⟨hb.1,by unfold sizeM;omega⟩
theorem flatten_at:∀ (rows:List (List Int)),(∀ r ∈ rows,r.length=5) → ∀ (j i:Nat) (r:List Int),rows[j]?=some r → i < 5 → rows.flatten[j * 5 + i]?=r[i]?:=by
 intro rows
 induction rows with
 | nil => intro _ j i r h;simp at h
 | cons a l ih =>
  intro hl j i r h hi
  have ha:a.length=5:=hl a (List.mem_cons_self ..)
  cases j with
  | zero =>
   simp at h
   subst h
   rw [List.flatten_cons,List.getElem?_append_left (by omega)]
   simp
  | succ j =>
   rw [List.flatten_cons,List.getElem?_append_right (by omega)]
   have:=ih (fun r hr => hl r (List.mem_cons_of_mem _ hr)) j i r (by simpa using h) hi
   rw [← this]
   congr 1
   omega
theorem RU.read {w:World} {base:Nat} {v:Value} {us:List (Int × Int)} (h:RU w base v us) :
  ∃ A c,v=.slice A us.length c ∧ ∀ (j:Nat) (u:Int × Int),us[j]?=some u → ∃ g,A=some ⟨g,0,none⟩ ∧ g < w.heap.size ∧ w.cell? ⟨g,j * 5,none⟩=some (.int .i64 u.1) ∧ w.cell? ⟨g,j * 5 + 1,none⟩=some (.int .i64 u.2):=by
 obtain ⟨rows,hm,h5,h⟩:=h
 rcases Nat.eq_zero_or_pos us.length with h0 | h0
 ·have hv:us=[]:=List.eq_nil_of_length_eq_zero h0
  subst hv
  rcases h.2 with ⟨rfl,_⟩ | ⟨g,cap,cur,rfl,_⟩
  ·exact ⟨_,_,rfl,by simp⟩
  ·exact ⟨_,_,rfl,by simp⟩
 ·obtain ⟨g,cap,rfl,hb,hlt⟩:=World.ownsRow.form h h0
  refine ⟨_,_,rfl,fun j u hj => ⟨g,rfl,hlt,?_,?_⟩⟩
  all_goals
   obtain ⟨hjl,_⟩:=List.getElem?_eq_some_iff.1 hj
   rw [← hm,List.getElem?_map,Option.map_eq_some_iff] at hj
   obtain ⟨r,hr,rfl⟩:=hj
   have hr5:=h5 r (List.mem_of_getElem? hr)
  ·rw [World.ownsRow.cellAt h (j * 5) (by omega),List.getElem?_map]
   have:=flatten_at rows h5 j 0 r hr (by omega)
   rw [Nat.add_zero] at this
   rw [this,List.getElem?_eq_getElem (by omega)]
   simp [List.getD_eq_getElem?_getD,List.getElem?_eq_getElem (show 0 < r.length by omega)]
  ·rw [World.ownsRow.cellAt h (j * 5 + 1) (by omega),List.getElem?_map,flatten_at rows h5 j 1 r hr (by omega),List.getElem?_eq_getElem (by omega)]
   simp [List.getD_eq_getElem?_getD,List.getElem?_eq_getElem (show 1 < r.length by omega)]
theorem refIds_no (f:FuncM) (B:Nat) (pv bv:Value) (w:World) (hpv:Ints w B pv f.params) (hbv:BlocksR w B bv f.blocks) (hB:B ≤ w.heap.size) (hfew:FewV f) (hl5:f.blocks.length ≤ 512) (hno:¬ IdsOk f) :
  Calls Tryz.prog 23 #[.agg #[pv,.int .i64 f.arrays,.int .i64 f.cells,bv]] w fun e w' => e=.returned (.tuple #[.slice none 0 0,.bool false]) ∧ Below w.heap.size w w':=by
 refine (refIds_any f B pv bv w hpv hbv hB hfew hl5).mono ?_
 rintro e w' ⟨hb,⟨_,he⟩ | ⟨h,_⟩⟩
 ·exact ⟨he,hb⟩
 ·exact absurd h hno
theorem refIds_yes (f:FuncM) (B:Nat) (pv bv:Value) (w:World) (hpv:Ints w B pv f.params) (hbv:BlocksR w B bv f.blocks) (hB:B ≤ w.heap.size) (hfew:FewV f) (hl5:f.blocks.length ≤ 512) (hyes:IdsOk f) :
  Calls Tryz.prog 23 #[.agg #[pv,.int .i64 f.arrays,.int .i64 f.cells,bv]] w fun e w' => ∃ (v:Value) (xs:List Int),e=.returned (.tuple #[v,.bool true]) ∧ w'.ownsRow w.heap.size 3 1 v xs.length (xs.map (Value.int .i64)) ∧ xs.Pairwise (· < ·) ∧ xs.Perm ((valuesM f).map (·.1)) ∧ Below w.heap.size w w':=by
 refine (refIds_any f B pv bv w hpv hbv hB hfew hl5).mono ?_
 rintro e w' ⟨hb,⟨h,_⟩ | ⟨_,v,xs,he,h1,h2,h3⟩⟩
 ·exact absurd hyes h
 ·exact ⟨v,xs,he,h1,h2,h3,hb⟩
theorem find_is (w:World) (B:Nat) (v:Value) (xs:List Int) (n:Int) (k:Nat) (hx:Ints w B v xs) (hr:xs.Pairwise (· < ·)) (hl:xs.length ≤ 100000) (hk:xs[k]?=some n) :
  Calls Tryz.prog 62 #[v,.int .i64 n] w fun e w' => e=.returned (.int .i64 k) ∧ w=w':=by
 refine (find_any w B v xs n hx hr hl).mono ?_
 rintro e w' ⟨r,rfl,hf,rfl⟩
 refine ⟨?_,rfl⟩
 rcases hf with ⟨_,h⟩ | ⟨j,rfl,hj⟩
 ·exact absurd (List.mem_of_getElem? hk) h
 ·obtain ⟨h1,e1⟩:=List.getElem?_eq_some_iff.1 hk
  obtain ⟨h2,e2⟩:=List.getElem?_eq_some_iff.1 hj
  rcases Nat.lt_trichotomy j k with h | h | h
  ·have:=List.pairwise_iff_getElem.1 hr j k h2 h1 h
   omega
  ·rw [h]
  ·have:=List.pairwise_iff_getElem.1 hr k j h1 h2 h
   omega
theorem find_not (w:World) (B:Nat) (v:Value) (xs:List Int) (n:Int) (hx:Ints w B v xs) (hr:xs.Pairwise (· < ·)) (hl:xs.length ≤ 100000) (hn:n ∉ xs) :
  Calls Tryz.prog 62 #[v,.int .i64 n] w fun e w' => e=.returned (.int .i64 (-1)) ∧ w=w':=by
 refine (find_any w B v xs n hx hr hl).mono ?_
 rintro e w' ⟨r,rfl,hf,rfl⟩
 refine ⟨?_,rfl⟩
 rcases hf with ⟨h,_⟩ | ⟨j,rfl,hj⟩
 ·rw [h]
 ·exact absurd (List.mem_of_getElem? hj) hn
def TypesTo (vs:List (Int × Int)) (xs ts:List Int) (k:Nat):Prop:=∀ (j i:Nat) (d:Int × Int),j < k → vs[j]?=some d → xs[i]?=some d.1 → ts[i]?=some d.2
theorem types_succ {vs:List (Int × Int)} {xs ts:List Int} {k i:Nat} {d:Int × Int} (h:TypesTo vs xs ts k) (hn:(vs.map (·.1)).Nodup) (hr:xs.Pairwise (· < ·)) (hd:vs[k]?=some d) (hi:xs[i]?=some d.1) (hl:i < ts.length):TypesTo vs xs (ts.set i d.2) (k + 1):=by
 intro j i' e hj he hi'
 rcases Nat.lt_or_ge j k with hjk | hjk
 ·have hne:i ≠ i':=by
   intro h1
   subst h1
   rw [hi] at hi'
   injection hi' with h2
   have e1:(vs.map (·.1))[j]?=some e.1:=by rw [List.getElem?_map,he];rfl
   have e2:(vs.map (·.1))[k]?=some d.1:=by rw [List.getElem?_map,hd];rfl
   obtain ⟨a1,a2⟩:=List.getElem?_eq_some_iff.1 e1
   obtain ⟨b1,b2⟩:=List.getElem?_eq_some_iff.1 e2
   have:=List.pairwise_iff_getElem.1 hn j k a1 b1 hjk
   rw [a2,b2] at this
   exact this h2.symm
  rw [List.getElem?_set_ne hne]
  exact h j i' e hjk he hi'
 ·have hjk':j=k:=by omega
  subst hjk'
  rw [hd] at he
  injection he with he
  subst he
  have:i=i':=by
   obtain ⟨a1,a2⟩:=List.getElem?_eq_some_iff.1 hi
   obtain ⟨b1,b2⟩:=List.getElem?_eq_some_iff.1 hi'
   rcases Nat.lt_trichotomy i i' with h1 | h1 | h1
   ·have:=List.pairwise_iff_getElem.1 hr i i' a1 b1 h1
    omega
   ·exact h1
   ·have:=List.pairwise_iff_getElem.1 hr i' i b1 a1 h1
    omega
  subst this
  exact List.getElem?_set_self hl
theorem at_mem {vs:List (Int × Int)} {id t:Int} (h:Defs.at vs id=some t):(id,t) ∈ vs:=by
 unfold Defs.at at h
 rw [Option.map_eq_some_iff] at h
 obtain ⟨d,hd,rfl⟩:=h
 have h1:=List.find?_some hd
 have h2:=List.mem_of_find?_eq_some hd
 have:d.1=id:=by simpa using h1
 rw [← this]
 exact h2
theorem any_take_succ {α:Type} (p:α → Bool) {l:List α} {k:Nat} {x:α} (hx:l[k]?=some x):(l.take (k + 1)).any p=((l.take k).any p || p x):=by
 obtain ⟨hk,rfl⟩:=List.getElem?_eq_some_iff.1 hx
 rw [List.take_succ_eq_append_getElem hk,List.any_append]
 simp
theorem unknown_at {ds:Defs} {us:List (Int × Int)} {k:Nat} {u:Int × Int} (hu:us[k]?=some u) (h:(ds.at u.1).isSome=false):unknownB ds us=true:=by
 unfold unknownB
 rw [List.any_eq_true]
 exact ⟨u,List.mem_of_getElem? hu,by rw [h];rfl⟩
def errTo (ds:Defs) (us:List (Int × Int)) (k:Nat):Int:=if unfitB ds (us.take k) then 3 else 0
theorem err_keep {ds:Defs} {us:List (Int × Int)} {k:Nat} {u:Int × Int} {t:Int} (hu:us[k]?=some u) (ht:ds.at u.1=some t) (h:(u.2 != 0 && t != u.2)=false):errTo ds us (k + 1)=errTo ds us k:=by
 unfold errTo unfitB
 rw [any_take_succ _ hu]
 simp only [ht,h,Bool.or_false]
theorem err_set {ds:Defs} {us:List (Int × Int)} {k:Nat} {u:Int × Int} {t:Int} (hu:us[k]?=some u) (ht:ds.at u.1=some t) (h:(u.2 != 0 && t != u.2)=true):errTo ds us (k + 1)=3:=by
 unfold errTo unfitB
 rw [any_take_succ _ hu]
 simp only [ht,h,Bool.or_true,if_true]
theorem RV.read' {w:World} {base:Nat} {v:Value} {vs:List (Int × Int)} (h:RV w base v vs) :
  ∃ A c,v=.slice A vs.length c ∧ ∀ (j:Nat) (d:Int × Int),vs[j]?=some d → ∃ g,A=some ⟨g,0,none⟩ ∧ base ≤ g ∧ g < w.heap.size ∧ w.cell? ⟨g,j * 2,none⟩=some (.int .i64 d.1) ∧ w.cell? ⟨g,j * 2 + 1,none⟩=some (.int .i64 d.2):=by
 obtain ⟨A,c,rfl,hr⟩:=RV.read h
 refine ⟨A,c,rfl,fun j d hj => ?_⟩
 obtain ⟨g,rfl,h1,h2,h3⟩:=hr j d hj
 exact ⟨g,rfl,(World.ownsRow.lt h g rfl).1,h1,h2,h3⟩
theorem own_below {w w':World} {base n:Nat} {e:TypeId} {size:Nat} {v:Value} {xs:List Value} (h:w.ownsRow base e size v n xs) (hb:Below w.heap.size w w'):w'.ownsRow base e size v n xs :=
 World.ownsRow.kept (row:=none) h ⟨hb.os,hb.tape,hb.output,hb.size,fun k hk _ => hb.block k hk⟩ (by
  cases hv:v.ownBlock with
  | none => exact .inl rfl
  | some k => exact .inr (by simp))
theorem look_eq {f:FuncM} {ds:Defs} (h:formedM f=some ds):(lookM f).1=if unknownB ds (usesM f) then 6 else if unfitB ds (usesM f) then 3 else 0:=by
 unfold lookM
 rw [h]
 simp only
 split
 ·rfl
 ·split <;> rfl
set_option maxRecDepth 100000 in
set_option maxHeartbeats 16000000 in
theorem refCheck_yes (f:FuncM) (B:Nat) (pv bv:Value) (w:World) (hpv:Ints w B pv f.params) (hbv:BlocksR w B bv f.blocks) (hB:B ≤ w.heap.size) (hfr:formedR f=true) (hio:IdsOk f) :
  Calls Tryz.prog 27 #[.agg #[pv,.int .i64 f.arrays,.int .i64 f.cells,bv]] w fun e w' => e=.returned (.int .i64 (lookM f).1) ∧ Below w.heap.size w w':=by
 have HFORM:=hideI (formed_yes hfr hio)
 obtain ⟨l1,l2,l3,l4,l5,l6,l7,l8⟩:=limits_bd (form_bd HFORM.out)
 have HFEW:=hideI (form_fewv (form_bd HFORM.out))
 obtain ⟨i0,hi,hz0,hz1,hz2⟩:=info_parts int_info
 have HPV:=hideI hpv
 have HBV:=hideI hbv
 have HFR:=hideI hfr
 have HIO:=hideI hio
 obtain ⟨A,c,rfl,hbm,_⟩:=hbv
 obtain ⟨P,pc,rfl,hpm,_⟩:=hpv
 obtain ⟨vs,hvs⟩:∃ vs,vs=valuesM f:=⟨_,rfl⟩
 have HVS:=hideI hvs
 obtain ⟨n,hn⟩:∃ n,n=vs.length:=⟨_,rfl⟩
 have HN:=hideI hn
 have hn5:n < 5000:=by rw [hn,hvs];exact values_few HFEW.out
 have hbox0:=hideI (heap_alloc_new w (.cells #[.slice P f.params.length pc,.int .i64 f.arrays,.int .i64 f.cells,.slice A f.blocks.length c] 25))
 have HB0:Hid (Below w.heap.size w (w.alloc (.cells #[.slice P f.params.length pc,.int .i64 f.arrays,.int .i64 f.cells,.slice A f.blocks.length c] 25))):=(Below.refl _ w).alloc (Nat.le_refl _) _
 obtain ⟨us,hus⟩:∃ us,us=usesM f:=⟨_,rfl⟩
 have HUS2:Hid (f.blocks.flatMap usesBlock=us):=hus.symm
 have HUS:=hideI hus
 obtain ⟨U,hU⟩:∃ U,U=us.length:=⟨_,rfl⟩
 have hU3:U ≤ 3000000:=by rw [hU,hus];exact form_few HFORM.out
 have HU:=hideI hU
 clear hvs hn hfr hio l8 hus hU
 go_enter Tryz.func27,Tryz.ntmps27
 go_wp2_with (first
  | (go_at_call 61;refine (refFormed_any f B _ _ _ (HPV.out.keeps ((Keeps.refl w).alloc hB _)) (HBV.out.keeps ((Keeps.refl w).alloc hB _)) (by simp;omega)).mono ?_;rw [HFR.out];rintro e w1 ⟨rfl,hb1⟩;have HBX1:=hideI ((hb1.block _ (lt_of_heap hbox0.out)).trans hbox0.out);have hx:=row_cells HBX1.out rfl;have HB1:=hideI (HB0.out.trans (hb1.mono (by simp)));have HK1:=hideI (Keeps.mono' (Keeps.of_below HB1.out) hB);have hs1:w.heap.size < w1.heap.size:=lt_of_heap HBX1.out;clear hb1)
  | (go_at_call 23;refine (refIds_yes f B _ _ _ (HPV.out.keeps HK1.out) (HBV.out.keeps HK1.out) (Nat.le_trans hB (Nat.le_of_lt hs1)) HFEW.out l7 HIO.out).mono ?_;rintro e w2 ⟨v2,xs,rfl,hown2,hris,hperm,hb2⟩;have hxl:xs.length=n:=(by rw [hperm.length_eq,List.length_map,HN.out,HVS.out]);obtain ⟨XA,xc,rfl,_⟩:=own_read hown2;rw [hxl];have HINTS:=hideI (ints_own hown2 (by omega));rw [hxl] at HINTS;clear hx;have HBX2:=hideI ((hb2.block _ (lt_of_heap HBX1.out)).trans HBX1.out);have hx:=row_cells HBX2.out rfl;have HB2:=hideI (HB1.out.trans (hb2.mono (Nat.le_of_lt hs1)));have HXL:=hideI hxl;have HRIS:=hideI hris;have HPERM:=hideI hperm;have hs2:w.heap.size < w2.heap.size:=lt_of_heap HBX2.out;clear hown2 hris hperm hb2 hxl)
  | (at_make;refine wpList_make_full _ rfl _ _ 22 rfl w2.heap.size 3 i0 (.int .i64 0) 1 Tryz.underlying22 hi hz0 hz1 .i64 .i64 _ _ n rfl rfl rfl rfl (by rw [hz2];omega) (by unfold maxLen;omega) (Nat.le_refl _) ?_;intro w3 hown3 hg3;have HOWN3:=hideI hown3;have HB3:=hideI (show Below w2.heap.size w2 w3 from ⟨hg3.os,hg3.tape,hg3.output,hg3.size,fun k hk => hg3.block k hk (by simp)⟩);clear hx;have HBX3:=hideI ((HB3.out.block _ hs2).trans HBX2.out);have hx:=row_cells HBX3.out rfl;have HB3w:=hideI (HB2.out.trans (HB3.out.mono (Nat.le_of_lt hs2)));have HK3:=hideI (Keeps.mono' (Keeps.of_below HB3w.out) hB);have hs3:w2.heap.size < w3.heap.size:=(World.ownsRow.lt hown3 _ rfl).2;clear hown3 hg3)
  | (go_at_call 56;refine (refValues_any f B _ _ _ (HPV.out.keeps HK3.out) (HBV.out.keeps HK3.out) (by omega) HFEW.out l7).mono ?_;rintro e w4 ⟨v4,rfl,hv4,hb4⟩;rw [← HVS.out] at hv4;obtain ⟨VA,vc,rfl,hvr⟩:=RV.read' hv4;rw [← HN.out];have HVR:=hideI hvr;have HB4:=hideI hb4;clear hb4 hv4 hvr hx))
 have HOWN4:Hid (w4.ownsRow w2.heap.size 3 1 (.slice (some ⟨w2.heap.size,0,none⟩) n n) n ((List.replicate n (0:Int)).map (Value.int .i64))):=by
  have h:=own_below HOWN3.out HB4.out
  rw [show (Value.int IntKind.i64 0).cells=#[Value.int IntKind.i64 0] from rfl,toList_madeCells_one,Nat.mul_one] at h
  show World.ownsRow _ _ _ _ _ _ _
  rw [List.map_replicate]
  exact h
 have hs4:w3.heap.size ≤ w4.heap.size:=HB4.out.size
 have HB4w:=hideI (HB3w.out.trans (HB4.out.mono (by omega)))
 have HXI4:=hideI (HINTS.out.keeps (Keeps.of_below (HB3.out.trans (HB4.out.mono (Nat.le_of_lt hs3)))))
 have HBX4:=hideI ((HB4.out.block _ (by omega)).trans HBX3.out)
 go_loopw [7] (fun u wr => ∃ (k:Nat) (ts:List Int),k ≤ n ∧ u=.int .i64 k ∧ Hid (ts.length=n) ∧ Hid (TypesTo vs xs ts k) ∧ wr.ownsRow w2.heap.size 3 1 (.slice (some ⟨w2.heap.size,0,none⟩) n n) n (ts.map (Value.int .i64)) ∧ w4.grownBy wr (some w2.heap.size)) (fun u _ => n - (intOf u).toNat)
 case atStart => exact ⟨0,List.replicate n 0,Nat.zero_le _,rfl,(by show (List.replicate n (0:Int)).length=n;simp),(fun j i d hj => absurd hj (by omega)),HOWN4.out,World.grownBy.refl _ _⟩
 case round =>
  obtain ⟨k,ts,hk,rfl,htl,htt,hown,hgr⟩:=hrel
  have HOWN:=hideI hown
  have HGR:=hideI hgr
  clear hown hgr
  have HXIr:=hideI (HXI4.out.keeps (Keeps.of_grown HGR.out (Nat.le_refl _) (by omega)))
  have HBXr:=hideI ((HGR.out.block w.heap.size (by omega) (by simp;omega)).trans HBX4.out)
  by_cases hlt:k < n
  ·obtain ⟨d,hd⟩:∃ d,vs[k]?=some d:=⟨_,List.getElem?_eq_getElem (by have:=HN.out;omega)⟩
   obtain ⟨g,rfl,hg1,hg2,c0,c1⟩:=HVR.out k d hd
   have hgT:w2.heap.size ≠ g:=by omega
   have d0:wr.cell? ⟨g,k * 2,none⟩=some (.int .i64 d.1):=(World.cell?_of_block (a:=⟨g,k * 2,none⟩) (HGR.out.block g hg2 (by simp;omega))).trans c0
   have d1:wr.cell? ⟨g,k * 2 + 1,none⟩=some (.int .i64 d.2):=(World.cell?_of_block (a:=⟨g,k * 2 + 1,none⟩) (HGR.out.block g hg2 (by simp;omega))).trans c1
   have hmem:d.1 ∈ xs:=HPERM.out.symm.subset (by rw [← HVS.out];exact List.mem_map_of_mem (List.mem_of_getElem? hd))
   obtain ⟨i,hix⟩:=List.getElem?_of_mem hmem
   have hil:i < n:=by obtain ⟨h,_⟩:=List.getElem?_eq_some_iff.1 hix;have:=HXL.out;omega
   obtain ⟨y,hy⟩:∃ y,ts[i]?=some y:=⟨_,List.getElem?_eq_getElem (by have:=htl.out;omega)⟩
   have q1:wr.cell? ⟨w2.heap.size,i,none⟩=some (.int .i64 y):=by rw [World.ownsRow.cellAt HOWN.out i (by omega),List.getElem?_map,hy];rfl
   have q2:wr.frozen? ⟨w2.heap.size,i,none⟩=false:=World.ownsRow.frozenAt HOWN.out i
   have HD:=hideI hd
   have HIX:=hideI hix
   have hxl5:xs.length ≤ 100000:=by have:=HXL.out;omega
   clear hd c0 c1 hmem hix hy
   go_wp2_with fail
   go_region_held3 (fun w' => w'.cell? ⟨g,k * 2,none⟩=some (.int .i64 d.1) ∧ w'.cell? ⟨g,k * 2 + 1,none⟩=some (.int .i64 d.2)) (first | go_keep | (simp only [World.cell?_setCell_ne, *];done))
    (first | (go_at_call 62;refine (find_is _ w2.heap.size _ xs d.1 i (HXIr.out.keeps (Keeps.heap' (Keeps.refl _) (by rfl))) HRIS.out hxl5 HIX.out).mono ?_;rintro e w9 ⟨rfl,rfl⟩))
   have HON:Hid ((wr.setCell ⟨w2.heap.size,i,none⟩ (.int .i64 d.2)).drew.ownsRow w2.heap.size 3 1 (.slice (some ⟨w2.heap.size,0,none⟩) n n) n ((ts.set i d.2).map (Value.int .i64))):=by
    show World.ownsRow _ _ _ _ _ _ _
    rw [List.map_set]
    exact ((World.ownsRow.stored HOWN.out i _).1).drew
   have HGN:Hid (w4.grownBy (wr.setCell ⟨w2.heap.size,i,none⟩ (.int .i64 d.2)).drew (some w2.heap.size)) :=
    (HGR.out.trans_grown (World.ownsRow.stored HOWN.out i _).2).trans_grown ⟨rfl,rfl,rfl,Nat.le_refl _,fun _ _ _ => rfl⟩
   have HTN:Hid (TypesTo vs xs (ts.set i d.2) (k + 1)):=types_succ htt.out (by rw [HVS.out];exact HIO.out.2) HRIS.out HD.out HIX.out (by have:=htl.out;omega)
   clear d0 d1 q1 q2
   go_wp2
   go_roundw
   case rel => exact ⟨k + 1,ts.set i d.2,by omega,by go_num,(by show (ts.set i d.2).length=n;rw [List.length_set];exact htl.out),HTN.out,HON.out,HGN.out⟩
   case measure => simp [intOf];omega
  ·have hkn:k=n:=by omega
   have HTT:Hid (TypesTo vs xs ts vs.length):=by have:=htt.out;rw [hkn,HN.out] at this;exact this
   have hx:=row_cells HBXr.out rfl
   have HBr:=hideI (show Below w2.heap.size w4 wr from ⟨HGR.out.os,HGR.out.tape,HGR.out.output,HGR.out.size,fun b hb => HGR.out.block b (by omega) (by simp;omega)⟩)
   have HBw:=hideI (HB4w.out.trans (HBr.out.mono (by omega)))
   have HKr:=hideI (Keeps.mono' (Keeps.of_below HBw.out) hB)
   have hsr:w.heap.size < wr.heap.size:=lt_of_heap HBXr.out
   clear hkn
   go_wp2_with (go_at_call 24;refine (refUses_any f.blocks B _ _ _ _ _ (HBV.out.keeps HKr.out) (by omega) (form_few HFORM.out) l7 (form_form HFORM.out) (form_phi HFORM.out)).mono ?_;rintro e w5 ⟨v5,rfl,hv5,hb5⟩;rw [HUS2.out] at hv5;obtain ⟨UA,uc,rfl,hur⟩:=RU.read hv5;rw [← HU.out];have HUR:=hideI hur;have HB5:=hideI hb5;clear hv5 hur hb5 hx)
   have HT5:=hideI (own_below HOWN.out HB5.out)
   have HX5:=hideI (HXIr.out.keeps (Keeps.of_below (HB5.out.mono (by have:=HBr.out.size;omega:w2.heap.size ≤ wr.heap.size))))
   have HF5:=hideI (HBw.out.trans (HB5.out.mono (Nat.le_of_lt hsr)))
   have hxl5:xs.length ≤ 100000:=by have:=HXL.out;omega
   have HLK:Hid ((lookM f).1=if unknownB vs us then 6 else if unfitB vs us then 3 else 0):=by show _=_;rw [HVS.out,HUS.out];exact look_eq HFORM.out
   obtain ⟨wq,rfl⟩:∃ wq:World,wq=wr:=⟨_,rfl⟩
   go_loopw [9,10] (fun o u wr => ∃ k m:Nat,k ≤ U ∧ u=.int .i64 k ∧ o=.int .i64 (errTo vs us k) ∧ Hid (∀ (j:Nat) (u:Int × Int),j < k → us[j]?=some u → (Defs.at vs u.1).isSome=true) ∧ wr=w5.drewN m) (fun _ u _ => U - (intOf u).toNat)
   case atStart => exact ⟨0,0,Nat.zero_le _,rfl,by simp [errTo,unfitB],(fun j u hj => absurd hj (by omega)),rfl⟩
   case round =>
    obtain ⟨k2,m,hk2,rfl,rfl,hkn,rfl⟩:=hrel
    obtain ⟨er,her⟩:∃ er,er=errTo vs us k2:=⟨_,rfl⟩
    rw [← her]
    have HER:=hideI her
    clear her
    by_cases hlu:k2 < U
    ·obtain ⟨u,hu⟩:∃ u,us[k2]?=some u:=⟨_,List.getElem?_eq_getElem (by have:=HU.out;omega)⟩
     obtain ⟨g5,rfl,hg5,e0,e1⟩:=HUR.out k2 u hu
     have HUU:=hideI hu
     clear hu
     cases hat:Defs.at vs u.1 with
     | none =>
      have HAT:=hideI hat
      have hnx:u.1 ∉ xs:=by
       intro hm
       have h1:=HPERM.out.subset hm
       rw [← HVS.out,← at_some,hat] at h1
       cases h1
      have HRES:Hid ((lookM f).1=6):=by
       show _=_
       rw [HLK.out,unknown_at HUU.out (by rw [HAT.out];rfl)]
       rfl
      clear hat
      go_wp2_with (go_at_call 62;refine (find_not _ w2.heap.size _ xs u.1 (HX5.out.keeps (Keeps.heap' (Keeps.refl _) (by rfl))) HRIS.out hxl5 hnx).mono ?_;rintro e w9 ⟨rfl,rfl⟩)
      go_ret
      exact ⟨by rw [HRES.out];rfl,drewN_below' HF5.out⟩
     | some t =>
      have HAT:=hideI hat
      have hmv:(u.1,t) ∈ vs:=at_mem hat
      have hm:u.1 ∈ xs:=HPERM.out.symm.subset (by rw [← HVS.out];exact List.mem_map.2 ⟨_,hmv,rfl⟩)
      obtain ⟨i,hix⟩:=List.getElem?_of_mem hm
      obtain ⟨j,hj⟩:=List.getElem?_of_mem (at_mem hat)
      have hjl:j < vs.length:=(List.getElem?_eq_some_iff.1 hj).1
      have hti:ts[i]?=some t:=HTT.out j i (u.1,t) hjl hj hix
      have hil:i < n:=by obtain ⟨h,_⟩:=List.getElem?_eq_some_iff.1 hix;have:=HXL.out;omega
      have q1:w5.cell? ⟨w2.heap.size,i,none⟩=some (.int .i64 t):=by rw [World.ownsRow.cellAt HT5.out i (by omega),List.getElem?_map,hti];rfl
      have HIX:=hideI hix
      have HKN:Hid (∀ (j:Nat) (u:Int × Int),j < k2 + 1 → us[j]?=some u → (Defs.at vs u.1).isSome=true):=by
       intro j u' hj hu'
       rcases Nat.lt_or_ge j k2 with h | h
       ·exact hkn.out j u' h hu'
       ·have:j=k2:=by omega
        subst this
        rw [HUU.out] at hu'
        injection hu' with hu'
        rw [← hu',HAT.out]
        rfl
      clear hat hm hmv hix hj hti
      have hcmp:(u.2 != 0)=false ∨ ((u.2 != 0)=true ∧ (u.2 != t)=false) ∨ ((u.2 != 0)=true ∧ (u.2 != t)=true):=by
       cases u.2 != 0 <;> cases u.2 != t <;> simp
      rcases hcmp with h1 | ⟨h1,h2⟩ | ⟨h1,h2⟩
      ·have HE:Hid (errTo vs us (k2 + 1)=er):=by show _=_;rw [HER.out];exact err_keep HUU.out HAT.out (by rw [h1];rfl)
       go_wp2_with (go_at_call 62;refine (find_is _ w2.heap.size _ xs u.1 i (HX5.out.keeps (Keeps.heap' (Keeps.refl _) (by rfl))) HRIS.out hxl5 HIX.out).mono ?_;rintro e w9 ⟨rfl,rfl⟩)
       go_quiet (fail)
       go_wp2
       go_roundw
       case rel => exact ⟨k2 + 1,_,by omega,by go_num,by rw [HE.out],HKN.out,rfl⟩
       case measure => simp [intOf];omega
      ·have HE:Hid (errTo vs us (k2 + 1)=er):=by
        show _=_
        rw [HER.out]
        refine err_keep HUU.out HAT.out ?_
        rw [h1]
        have:u.2=t:=by simpa using h2
        simp [this]
       go_wp2_with (go_at_call 62;refine (find_is _ w2.heap.size _ xs u.1 i (HX5.out.keeps (Keeps.heap' (Keeps.refl _) (by rfl))) HRIS.out hxl5 HIX.out).mono ?_;rintro e w9 ⟨rfl,rfl⟩)
       go_quiet (fail)
       go_wp2
       go_roundw
       case rel => exact ⟨k2 + 1,_,by omega,by go_num,by rw [HE.out],HKN.out,rfl⟩
       case measure => simp [intOf];omega
      ·have HE:Hid (errTo vs us (k2 + 1)=3):=by
        show _=_
        refine err_set HUU.out HAT.out ?_
        rw [h1]
        have h3:u.2 ≠ t:=by simpa using h2
        simp
        exact fun h => h3 h.symm
       go_wp2_with (go_at_call 62;refine (find_is _ w2.heap.size _ xs u.1 i (HX5.out.keeps (Keeps.heap' (Keeps.refl _) (by rfl))) HRIS.out hxl5 HIX.out).mono ?_;rintro e w9 ⟨rfl,rfl⟩)
       go_quiet (fail)
       go_wp2
       go_roundw
       case rel => exact ⟨k2 + 1,_,by omega,by go_num,by rw [HE.out],HKN.out,rfl⟩
       case measure => simp [intOf];omega
    ·have HRES:Hid ((lookM f).1=er):=by
      show _=_
      have hun:unknownB vs us=false:=by
       unfold unknownB
       rw [List.any_eq_false]
       intro u hu
       obtain ⟨j,hj⟩:=List.getElem?_of_mem hu
       have:=hkn.out j u (by obtain ⟨h,_⟩:=List.getElem?_eq_some_iff.1 hj;have:=HU.out;omega) hj
       simp [this]
      rw [HLK.out,HER.out,hun]
      unfold errTo
      rw [List.take_of_length_le (by have:=HU.out;omega)]
      rfl
     go_wp2
     go_ret
     exact ⟨by rw [HRES.out];rfl,drewN_below' HF5.out⟩
set_option maxRecDepth 100000 in
set_option maxHeartbeats 4000000 in
theorem refCheck_any (f:FuncM) (B:Nat) (pv bv:Value) (w:World) (hpv:Ints w B pv f.params) (hbv:BlocksR w B bv f.blocks) (hB:B ≤ w.heap.size) :
  Calls Tryz.prog 27 #[.agg #[pv,.int .i64 f.arrays,.int .i64 f.cells,bv]] w fun e w' => e=.returned (.int .i64 (lookM f).1) ∧ Below w.heap.size w w':=by
 by_cases hio:formedR f=true ∧ IdsOk f
 ·exact refCheck_yes f B pv bv w hpv hbv hB hio.1 hio.2
 have hno:formedM f=none:=by
  cases hfr:formedR f
  ·exact formed_no hfr
  ·exact formed_ids_no (fun h => hio ⟨hfr,h⟩)
 have hl:(lookM f).1=2:=by unfold lookM;rw [hno]
 rw [hl]
 have HPV:=hideI hpv
 have HBV:=hideI hbv
 obtain ⟨A,c,rfl,hbm,_⟩:=hbv
 obtain ⟨P,pc,rfl,hpm,_⟩:=hpv
 have hbox0:=hideI (heap_alloc_new w (.cells #[.slice P f.params.length pc,.int .i64 f.arrays,.int .i64 f.cells,.slice A f.blocks.length c] 25))
 have HB0:Hid (Below w.heap.size w (w.alloc (.cells #[.slice P f.params.length pc,.int .i64 f.arrays,.int .i64 f.cells,.slice A f.blocks.length c] 25))):=(Below.refl _ w).alloc (Nat.le_refl _) _
 have HIO:=hideI hio
 clear hio hno hl
 cases hfr:formedR f
 ·have HFR:=hideI hfr
  clear hfr
  go_enter Tryz.func27,Tryz.ntmps27
  go_wp2_with (go_at_call 61;refine (refFormed_any f B _ _ _ (HPV.out.keeps ((Keeps.refl w).alloc hB _)) (HBV.out.keeps ((Keeps.refl w).alloc hB _)) (by simp;omega)).mono ?_;rw [HFR.out];rintro e w1 ⟨rfl,hb1⟩;have HB1:=hideI (HB0.out.trans (hb1.mono (by simp)));clear hb1)
  go_ret
  exact ⟨rfl,HB1.out⟩
 ·have HFR:=hideI hfr
  have hnio:¬ IdsOk f:=fun h => HIO.out ⟨hfr,h⟩
  have hlim:limitsB f=true:=by
   cases h:limitsB f
   ·rw [formedR_limits h] at hfr
    cases hfr
   ·rfl
  obtain ⟨l1,l2,l3,l4,l5,l6,l7,l8⟩:=limits_bd hlim
  have HFEW:=hideI (form_fewv hlim)
  clear hfr hlim l8
  go_enter Tryz.func27,Tryz.ntmps27
  go_wp2_with (first
   | (go_at_call 61;refine (refFormed_any f B _ _ _ (HPV.out.keeps ((Keeps.refl w).alloc hB _)) (HBV.out.keeps ((Keeps.refl w).alloc hB _)) (by simp;omega)).mono ?_;rw [HFR.out];rintro e w1 ⟨rfl,hb1⟩;have HBX1:=hideI ((hb1.block _ (lt_of_heap hbox0.out)).trans hbox0.out);have hx:=row_cells HBX1.out rfl;have HB1:=hideI (HB0.out.trans (hb1.mono (by simp)));have HK1:=hideI (Keeps.mono' (Keeps.of_below HB1.out) hB);have hs1:w.heap.size < w1.heap.size:=lt_of_heap HBX1.out;clear hb1)
   | (go_at_call 23;refine (refIds_no f B _ _ _ (HPV.out.keeps HK1.out) (HBV.out.keeps HK1.out) (Nat.le_trans hB (Nat.le_of_lt hs1)) HFEW.out l7 hnio).mono ?_;rintro e w2 ⟨rfl,hb2⟩;have HB2:=hideI (HB1.out.trans (hb2.mono (Nat.le_of_lt hs1)));clear hb2))
  go_ret
  exact ⟨rfl,HB2.out⟩
end Go.Proofs.YtikogmpibkefdaaGreat

namespace Go.Proofs.YtikogmpibkefdaaGreat
open Go.RowKit Go.Maps
theorem look_right {f:FuncM} (h:(lookM f).1=0):formedR f=true:=by
 cases hr:formedR f
 ·have:=formed_no hr
  rw [look_formed h] at this
  cases this
 ·rfl
theorem right_blockR {f:FuncM} (h:(lookM f).1=0) {q:BlockM} (hq:q ∈ f.blocks):blockR f q=true:=by
 have hr:=look_right h
 unfold formedR at hr
 simp only [Bool.and_eq_true,List.all_eq_true] at hr
 exact hr.2.2.2 q hq
theorem look_id {f:FuncM} (h:(lookM f).1=0) {q:BlockM} (hq:q ∈ f.blocks) {x:InstrM} (hx:x ∈ q.code):makesS x.op=0 → x.id=-1:=by
 have hb:=right_blockR h hq
 unfold blockR at hb
 simp only [Bool.and_eq_true,List.all_eq_true] at hb
 have hi:=hb.2.1 x hx
 unfold instrR at hi
 simp only [Bool.and_eq_true,Bool.not_eq_true',Bool.and_eq_false_iff,beq_eq_false_iff_ne,bne_eq_false_iff_eq] at hi
 intro hm
 rcases hi.2.2.1 with h1 | h1
 ·exact absurd hm h1
 ·exact h1
theorem look_used {f:FuncM} (h:(lookM f).1=0) (u:Int × Int) (hu:u ∈ usesM f):u.1 ∈ (valuesM f).map (·.1):=by
 rw [← at_some]
 have he:=look_eq (look_formed h)
 rw [h,formed_eq (look_formed h)] at he
 cases hx:unknownB (valuesM f) (usesM f)
 ·unfold unknownB at hx
  rw [List.any_eq_false] at hx
  have:=hx u hu
  simpa [Option.isSome_iff_ne_none] using this
 ·rw [hx] at he
  simp at he
theorem vals_instr {f:FuncM} (h:(lookM f).1=0) {q:BlockM} (hq:q ∈ f.blocks) {x:InstrM} (hx:x ∈ q.code) (b i:Nat):(placedInstr b i x).map (·.1)=(valuesInstr x).map (·.1):=by
 unfold placedInstr valuesInstr
 rcases makes_cases x.op with hm | hm
 ·have:=look_id h hq hx hm
  rw [if_neg (by omega),if_neg (by omega)]
  rfl
 ·have hk:=(formed_keys (look_formed h)).1
  have hv:=formed_eq (look_formed h)
  have hmem:(x.id,makesS x.op) ∈ (lookM f).2:=by
   rw [hv]
   unfold valuesM valuesBlock
   refine List.mem_append.2 (.inr (List.mem_flatMap.2 ⟨q,hq,List.mem_append.2 (.inr (List.mem_flatMap.2 ⟨x,hx,?_⟩))⟩))
   unfold valuesInstr
   rw [if_pos hm]
   exact List.mem_singleton.2 rfl
  have h0:=(hk _ hmem).1
  rw [if_pos h0,if_pos hm]
  rfl
theorem vals_code {f:FuncM} (h:(lookM f).1=0) {q:BlockM} (hq:q ∈ f.blocks) (b:Nat):∀ i,i ≤ q.code.length → (placedCode b q.code i).map (·.1)=((q.code.take i).flatMap valuesInstr).map (·.1):=by
 intro i
 induction i with
 | zero => intro _;rfl
 | succ i ih =>
  intro hi
  have hx:q.code[i]?=some q.code[i]:=List.getElem?_eq_getElem (by omega)
  rw [placedCode,hx,List.map_append,ih (by omega),List.take_succ_eq_append_getElem (by omega),List.flatMap_append,List.map_append,vals_instr h hq (List.getElem_mem ..)]
  simp
theorem vals_block {f:FuncM} (h:(lookM f).1=0) {q:BlockM} (hq:q ∈ f.blocks) (b:Nat):(placedBlock b q).map (·.1)=(valuesBlock q).map (·.1):=by
 unfold placedBlock valuesBlock
 rw [List.map_append,List.map_append,vals_code h hq b _ (Nat.le_refl _),List.take_length]
 congr 1
 unfold placedPhis
 rw [List.map_map,List.map_map]
 rfl
theorem vals_blocks {f:FuncM} (h:(lookM f).1=0):∀ b,b ≤ f.blocks.length → (placedBlocks f.blocks b).map (·.1)=((f.blocks.take b).flatMap valuesBlock).map (·.1):=by
 intro b
 induction b with
 | zero => intro _;rfl
 | succ b ih =>
  intro hb
  have hx:f.blocks[b]?=some f.blocks[b]:=List.getElem?_eq_getElem (by omega)
  rw [placedBlocks,hx,List.map_append,ih (by omega),List.take_succ_eq_append_getElem (by omega),List.flatMap_append,List.map_append,vals_block h (List.getElem_mem ..)]
  simp
theorem vals_params (l:List Int):(placedParams l.length).map (·.1)=(paramDefs 0 l).map (·.1):=by
 have h1:∀ n,(placedParams n).map (·.1)=(List.range n).map fun (k:Nat) => (k:Int):=by
  intro n
  induction n with
  | zero => rfl
  | succ n ih => rw [placedParams,List.map_append,ih,List.range_succ,List.map_append];rfl
 have h2:∀ (l:List Int) (j:Nat),(paramDefs j l).map (·.1)=(List.range l.length).map fun (k:Nat) => ((j + k:Nat):Int):=by
  intro l
  induction l with
  | nil => intro j;rfl
  | cons a l ih =>
   intro j
   rw [paramDefs,List.map_cons,ih,List.length_cons,List.range_succ_eq_map,List.map_cons,List.map_map]
   congr 1
   apply List.map_congr_left
   intro k _
   simp only [Function.comp]
   omega
 rw [h1,h2]
 apply List.map_congr_left
 intro k _
 simp
theorem placed_ids {f:FuncM} (h:(lookM f).1=0):(placedM f).map (·.1)=(valuesM f).map (·.1):=by
 unfold placedM valuesM
 rw [List.map_append,List.map_append,vals_params,vals_blocks h _ (Nat.le_refl _),List.take_length]
theorem placed_nodup {f:FuncM} (h:(lookM f).1=0):((placedM f).map (·.1)).Nodup:=by
 rw [placed_ids h]
 have:=formed_nodup (look_formed h)
 rwa [formed_eq (look_formed h)] at this
theorem placedCode_mem {b:Nat} {xs:List InstrM} {d:Int × (Nat × Int)}:∀ i,d ∈ placedCode b xs i → d.2.1=b ∧ ∃ (j:Nat) (x:InstrM),xs[j]?=some x ∧ j < i ∧ d.1=x.id ∧ d.2.2=(j:Int) ∧ 0 ≤ x.id:=by
 intro i
 induction i with
 | zero => intro h;cases h
 | succ i ih =>
  intro h
  rw [placedCode] at h
  rcases List.mem_append.1 h with h | h
  ·obtain ⟨h1,j,x,h2,h3,h4⟩:=ih h
   exact ⟨h1,j,x,h2,by omega,h4⟩
  ·cases hx:xs[i]? with
   | none => rw [hx] at h;cases h
   | some x =>
    rw [hx] at h
    simp only [placedInstr] at h
    split at h
    ·rename_i h0
     rw [List.mem_singleton] at h
     subst h
     exact ⟨rfl,i,x,hx,by omega,rfl,rfl,h0⟩
    ·cases h
inductive MadeAt (f:FuncM) (id:Int):Nat → Int → Prop
 | param (h0:0 ≤ id) (h:id < f.params.length):MadeAt f id 0 (-1)
 | phi {b:Nat} {q:BlockM} {p:PhiM} (hq:f.blocks[b]?=some q) (hp:p ∈ q.phis) (h:p.id=id):MadeAt f id b (-1)
 | instr {b i:Nat} {q:BlockM} {x:InstrM} (hq:f.blocks[b]?=some q) (hx:q.code[i]?=some x) (h:x.id=id) (h0:0 ≤ id):MadeAt f id b (i:Int)
theorem placedBlocks_mem {f:FuncM} {d:Int × (Nat × Int)}:∀ n,d ∈ placedBlocks f.blocks n → MadeAt f d.1 d.2.1 d.2.2:=by
 intro n
 induction n with
 | zero => intro h;cases h
 | succ n ih =>
  intro h
  rw [placedBlocks] at h
  rcases List.mem_append.1 h with h | h
  ·exact ih h
  ·cases hq:f.blocks[n]? with
   | none => rw [hq] at h;cases h
   | some q =>
    rw [hq] at h
    simp only [placedBlock] at h
    rcases List.mem_append.1 h with h | h
    ·unfold placedPhis at h
     obtain ⟨p,hp,rfl⟩:=List.mem_map.1 h
     exact .phi hq hp rfl
    ·obtain ⟨h1,j,x,hx,_,h2,h3,h4⟩:=placedCode_mem _ h
     rw [h1,h3]
     exact .instr hq hx h2.symm (by rw [h2];exact h4)
theorem placedM_mem {f:FuncM} {id:Int} {b:Nat} {a:Int} (h:(id,(b,a)) ∈ placedM f):MadeAt f id b a:=by
 unfold placedM at h
 rcases List.mem_append.1 h with h | h
 ·have hp:∀ n,(id,(b,a)) ∈ placedParams n → b=0 ∧ a=-1 ∧ 0 ≤ id ∧ id < n:=by
   intro n
   induction n with
   | zero => intro h;cases h
   | succ n ih =>
    intro h
    rw [placedParams] at h
    rcases List.mem_append.1 h with h | h
    ·have:=ih h;omega
    ·rw [List.mem_singleton] at h
     injection h with h1 h2
     injection h2 with h2 h3
     omega
  obtain ⟨rfl,rfl,h0,h1⟩:=hp _ h
  exact .param h0 h1
 ·exact placedBlocks_mem _ h
theorem last_made {f:FuncM} {id:Int} {m:Nat × Int} (h:(placedM f).last id=some m):MadeAt f id m.1 m.2:=by
 unfold Placed.last at h
 rw [Option.map_eq_some_iff] at h
 obtain ⟨d,hd,rfl⟩:=h
 have h1:=List.mem_reverse.1 (List.mem_of_find?_eq_some hd)
 have h2:d.1=id:=by simpa using List.find?_some hd
 obtain ⟨x,y,z⟩:=d
 simp only at h2
 subst h2
 exact placedM_mem h1
theorem made_lt {f:FuncM} (h0:0 < f.blocks.length) {id:Int} {b:Nat} {a:Int} (h:MadeAt f id b a):b < f.blocks.length:=by
 cases h with
 | param => exact h0
 | phi hq => exact (List.getElem?_eq_some_iff.1 hq).1
 | instr hq => exact (List.getElem?_eq_some_iff.1 hq).1
theorem known_of {f:FuncM} (h:(lookM f).1=0) (hid:∀ u ∈ usesM f,I64 u.1) {u:Int × Int} (hu:u ∈ usesM f):Known f u.1:=by
 have hn:=(look_some_block h).1
 have hm:u.1 ∈ (placedM f).map (·.1):=by
  rw [placed_ids h]
  exact look_used h u hu
 refine ⟨hid u hu,?_⟩
 obtain ⟨d,hd,he⟩:=List.mem_map.1 hm
 obtain ⟨x,y,z⟩:=d
 simp only at he
 subst he
 have hl:(placedM f).last u.1=some (y,z):=by
  rw [Placed.last_first (placed_nodup h)]
  exact Placed.first_mem (placed_nodup h) hd
 exact ⟨y,z,hl,made_lt hn (last_made hl)⟩
theorem uses_known {f:FuncM} (h:(lookM f).1=0) (hid:∀ u ∈ usesM f,I64 u.1):UsesKnown f:=by
 have hall:=(formed_all (look_formed h)).1
 refine ⟨fun b q p i id hq hp hi => ?_,fun b q x id hq hx hi => ?_,fun b q hq ht => ?_⟩
 ·have hmq:=List.mem_of_getElem? hq
  have hl:=look_phi h q hmq p hp
  have hil:=(List.getElem?_eq_some_iff.1 hi).1
  obtain ⟨k,hk⟩:∃ k,p.fr[i]?=some k:=⟨_,List.getElem?_eq_getElem (by omega)⟩
  have hon:=(hall q hmq).1 p hp
  unfold phiB at hon
  simp only [Bool.and_eq_true] at hon
  have hr:=(once_nodup _ _ hon.2.2).2.1 k (List.mem_of_getElem? hk)
  obtain ⟨kn,rfl⟩:∃ kn:Nat,k=(kn:Int):=⟨k.toNat,by omega⟩
  obtain ⟨j,hj⟩:=List.getElem?_of_mem hp
  exact ⟨kn,f.blocks[kn]'(by omega),hk,List.getElem?_eq_getElem _,known_of h hid (each3.mem_phi hq hj hi)⟩
 ·obtain ⟨j,hj⟩:=List.getElem?_of_mem hx
  obtain ⟨m,hm⟩:=List.getElem?_of_mem hi
  have hf:=look_form h q (List.mem_of_getElem? hq) x hx
  have hml:=(List.getElem?_eq_some_iff.1 hm).1
  obtain ⟨t,ht⟩:∃ t,(takesS x.op)[m]?=some t:=⟨_,List.getElem?_eq_getElem (by omega)⟩
  exact known_of h hid (each3.mem_instr hq hj hm ht)
 ·rcases ht with ht | ht
  ·exact known_of h hid (each3.mem_term (u:=(q.term.val,2)) hq (by unfold usesTerm;rw [if_pos ht];exact List.mem_singleton.2 rfl))
  ·exact known_of h hid (each3.mem_term (u:=(q.term.val,0)) hq (by unfold usesTerm;rw [if_neg (by omega),if_pos ht];exact List.mem_singleton.2 rfl))
def aheadP (bs:List BlockM) (o:List Nat) (m:Nat × Int) (ub:Nat) (ua:Int):Prop:=(m.1=ub ∧ m.2 < ua) ∨ (m.1 ≠ ub ∧ OverP bs o m.1 ub)
def okP (f:FuncM) (o:List Nat) (id:Int) (ub:Nat) (ua:Int):Prop:=∀ m,(placedM f).last id=some m → aheadP f.blocks o m ub ua
structure UsesP (f:FuncM) (o:List Nat) (b:Nat) (q:BlockM):Prop where
 phi:∀ p ∈ q.phis,∀ (i:Nat) (id:Int) (fr:Nat) (q':BlockM),p.vals[i]?=some id → p.fr[i]?=some (fr:Int) → f.blocks[fr]?=some q' → okP f o id fr q'.code.length
 arg:∀ (i:Nat) (x:InstrM),q.code[i]?=some x → ∀ id ∈ x.args,okP f o id b i
 term:q.term.op=2 ∨ q.term.op=3 → okP f o q.term.val b q.code.length
def usesPR (f:FuncM) (o:List Nat) (b:Nat):Prop:=∀ q,f.blocks[b]?=some q → UsesP f o b q
def CheckIs (f:FuncM) (r:Int × Int):Prop :=
 ((lookM f).1 ≠ 0 ∧ r=(0,(lookM f).1)) ∨ ((lookM f).1=0 ∧ ∃ o,OrderIs f.blocks o ∧ FaultIs f.blocks.length (· ∈ o) (phisR f) (usesPR f o) r)
theorem CheckIs.one {f:FuncM} {r s:Int × Int} (h:CheckIs f r) (k:CheckIs f s):r=s:=by
 rcases h with ⟨h1,rfl⟩ | ⟨h1,o,ho,hf⟩
 ·rcases k with ⟨_,rfl⟩ | ⟨k1,_⟩
  ·rfl
  ·exact absurd k1 h1
 ·rcases k with ⟨k1,_⟩ | ⟨_,o',ho',kf⟩
  ·exact absurd h1 k1
  ·have:=ho.one ho'
   subst this
   exact hf.one (fun _ _ => Iff.rfl) (fun _ _ => Iff.rfl) (fun _ _ _ => Iff.rfl) kf
theorem okAt_iff {f:FuncM} {o:List Nat} {pl:Nat → Nat} {par:Nat → Option Nat} {F L:Nat → Int} (hn:0 < f.blocks.length) (hO:Ord (succM f.blocks) o pl) (hD:Done (succM f.blocks) o pl par) (hN:Numbered o par F L) (hall:∀ b,b < f.blocks.length → b ∈ o)
  {id:Int} {ub:Nat} {ua:Int} (hub:ub < f.blocks.length):okAt f F L id ub ua ↔ okP f o id ub ua:=by
 unfold okAt okP
 refine forall_congr' fun m => forall_congr' fun hm => ?_
 have hml:=made_lt hn (last_made hm)
 have hd:domB F L m.1 ub=true ↔ OverP f.blocks o m.1 ub:=by
  unfold domB
  rw [over_anc hO hD (hall ub hub),Bool.and_eq_true,decide_eq_true_iff,decide_eq_true_iff]
  exact hN.over m.1 (hall _ hml) ub (hall ub hub)
 unfold aheadB aheadP
 by_cases h:m.1=ub
 ·rw [if_pos h,decide_eq_true_iff]
  exact ⟨fun k => .inl ⟨h,k⟩,fun k => k.elim (fun k => k.2) (fun k => absurd h k.1)⟩
 ·rw [if_neg h,hd]
  exact ⟨fun k => .inr ⟨h,k⟩,fun k => k.elim (fun k => absurd k.1 h) (fun k => k.2)⟩
theorem usesR_iff {f:FuncM} {o:List Nat} {pl:Nat → Nat} {par:Nat → Option Nat} {F L:Nat → Int} (hn:0 < f.blocks.length) (hO:Ord (succM f.blocks) o pl) (hD:Done (succM f.blocks) o pl par) (hN:Numbered o par F L) (hall:∀ b,b < f.blocks.length → b ∈ o)
  {b:Nat} (hb:b < f.blocks.length):usesR f F L b ↔ usesPR f o b:=by
 refine forall_congr' fun q => forall_congr' fun hq => ?_
 have H:=@okAt_iff f o pl par F L hn hO hD hN hall
 constructor
 ·rintro ⟨h1,h2,h3⟩
  exact ⟨fun p hp i id fr q' a b c => (H (List.getElem?_eq_some_iff.1 c).1).1 (h1 p hp i id fr q' a b c),fun i x a id c => (H hb).1 (h2 i x a id c),fun a => (H hb).1 (h3 a)⟩
 ·rintro ⟨h1,h2,h3⟩
  exact ⟨fun p hp i id fr q' a b c => (H (List.getElem?_eq_some_iff.1 c).1).2 (h1 p hp i id fr q' a b c),fun i x a id c => (H hb).2 (h2 i x a id c),fun a => (H hb).2 (h3 a)⟩
theorem FaultIs.change {n:Nat} {R0 R1 R2 S2:Nat → Prop} (h2:(∀ b,b < n → R0 b) → ∀ b,b < n → (R2 b ↔ S2 b)) {r:Int × Int} (h:FaultIs n R0 R1 R2 r):FaultIs n R0 R1 S2 r:=by
 rcases h with h | h | ⟨a0,a1,b,⟨hb,hn,hl⟩,rfl⟩ | ⟨a0,a1,a2,rfl⟩
 ·exact .inl h
 ·exact .inr (.inl h)
 ·exact .inr (.inr (.inl ⟨a0,a1,b,⟨hb,fun h => hn ((h2 a0 b hb).2 h),fun a ha => (h2 a0 a (by omega)).1 (hl a ha)⟩,rfl⟩))
 ·exact .inr (.inr (.inr ⟨a0,a1,fun b hb => (h2 a0 b hb).1 (a2 b hb),rfl⟩))
def CheckPost (f:FuncM) (w:World) (e:Ending) (w':World):Prop:=∃ x y:Int,e=.returned (.tuple #[.int .i64 x,.int .i64 y]) ∧ CheckIs f (x,y) ∧ Below w.heap.size w w'
set_option maxRecDepth 100000 in
set_option maxHeartbeats 2000000 in
theorem sCheck_any (f:FuncM) (B:Nat) (pv bv:Value) (w:World) (hpv:Ints w B pv f.params) (hbv:BlocksR w B bv f.blocks) (hB:B ≤ w.heap.size) (hid:∀ u ∈ usesM f,I64 u.1) :
  Calls Tryz.prog 38 #[.agg #[pv,.int .i64 f.arrays,.int .i64 f.cells,bv]] w (CheckPost f w):=by
 have HP:=hideI hpv
 have HBL:=hideI hbv
 have HID:=hideI hid
 obtain ⟨P,pc,rfl,_⟩:=hpv
 obtain ⟨A,c,rfl,hbm,_⟩:=hbv
 have HB0:Hid (Below w.heap.size w (w.alloc (.cells #[.slice P f.params.length pc,.int .i64 f.arrays,.int .i64 f.cells,.slice A f.blocks.length c] 25))):=(Below.refl _ w).alloc (Nat.le_refl _) _
 have HF:=hideI (functionOf_any f B _ _ (w.alloc (.cells #[.slice P f.params.length pc,.int .i64 f.arrays,.int .i64 f.cells,.slice A f.blocks.length c] 25)) (HP.out.keeps (Keeps.of_below (HB0.out.mono hB))) (HBL.out.keeps (Keeps.of_below (HB0.out.mono hB))) (by simp;omega) HID.out)
 clear hid
 by_cases h0:(lookM f).1=0
 ·have H0:=hideI h0
  have hnb:=look_some_block h0
  have hn5:=hnb.2
  have hn0:=hnb.1
  clear h0 hnb
  go_enter Tryz.func38,Tryz.ntmps38
  go_wp2_with (first
   | (go_at_call 80;go_must (refine HF.out.mono ?_);rintro e w1 (⟨hbad,_⟩ | ⟨_,o,pl,par,capo,gF,gL,gp,M,F,L,rfl,hfs,hdone,hnum,hsf,hb1⟩);(exact absurd H0.out hbad);have HFS:=hideI hfs;have HDONE:=hideI hdone;have HNUM:=hideI hnum;have HSF:=hideI hsf;have HB1:=hideI (HB0.out.trans (hb1.mono (by simp)));clear hfs hdone hnum hsf hb1)
   | (go_at_call 81;go_must (refine (fault_any f o par w1.heap.size (.slice P f.params.length pc) (.slice A f.blocks.length c) gF gL gp M F L _ (HSF.out.kept ((Below.refl _ _).alloc (Nat.le_refl _) _)) (by simp) hn5 (uses_known H0.out HID.out) HNUM.out P _ _ rfl).mono ?_);rintro e w2 ⟨x,y,rfl,hfi,hb2⟩;have HFI:=hideI hfi;have HB2:=hideI ((HB1.out.alloc HB1.out.size _).trans (hb2.mono (by have:=HB1.out.size;simp;omega)));clear hfi hb2))
  go_ret2
  exact ⟨x,y,rfl,.inr ⟨H0.out,o,HFS.out.order,HFI.out.change (fun hall b hb => usesR_iff hn0 HFS.out.ord HDONE.out HNUM.out hall hb)⟩,HB2.out⟩
 ·have H0:=hideI h0
  have hb:((lookM f).1 != 0)=true:=by simpa using h0
  clear h0
  go_enter Tryz.func38,Tryz.ntmps38
  go_wp2_with (go_at_call 80;go_must (refine HF.out.mono ?_);rintro e w1 (⟨_,rfl,hb1⟩ | ⟨hbad,_⟩);rotate_left;(exact absurd hbad H0.out);have HB1:=hideI (HB0.out.trans (hb1.mono (by simp)));clear hb1)
  go_ret2
  exact ⟨_,_,rfl,.inl ⟨H0.out,rfl⟩,HB1.out.alloc HB1.out.size _⟩
end Go.Proofs.YtikogmpibkefdaaGreat

namespace Go.Proofs.YtikogmpibkefdaaGreat
open Go.RowKit
structure StrictM (f:FuncM) (o:List Nat):Prop where
 look:(lookM f).1=0
 order:OrderIs f.blocks o
 come:∀ b,b < f.blocks.length → b ∈ o
 phis:∀ b,b < f.blocks.length → phisR f b
 uses:∀ b,b < f.blocks.length → usesPR f o b
theorem strict_of {f:FuncM} {x:Int} (h:CheckIs f (x,0)):x=0 ∧ ∃ o,StrictM f o:=by
 rcases h with ⟨h1,h2⟩ | ⟨h0,o,ho,hf⟩
 ·have:=(Prod.mk.inj h2).2
  exact absurd this.symm h1
 ·rcases hf with ⟨b,_,e⟩ | ⟨_,b,_,e⟩ | ⟨_,_,b,_,e⟩ | ⟨a0,a1,a2,e⟩
  ·exact absurd (Prod.mk.inj e).2 (by decide)
  ·exact absurd (Prod.mk.inj e).2 (by decide)
  ·exact absurd (Prod.mk.inj e).2 (by decide)
  ·exact ⟨(Prod.mk.inj e).1,o,h0,ho,a0,a1,a2⟩
theorem StrictM.check {f:FuncM} {o:List Nat} {r:Int × Int} (h:StrictM f o) (k:CheckIs f r):r=(0,0) :=
 k.one (.inr ⟨h.look,o,h.order,.inr (.inr (.inr ⟨h.come,h.phis,h.uses,rfl⟩))⟩)
end Go.Proofs.YtikogmpibkefdaaGreat

namespace Go.Proofs.YtikogmpibkefdaaGreat
open Go.RowKit Go.Maps
structure LoopsOf (f:FuncM) (o:List Nat) (pl:Nat → Nat) (par:Nat → Option Nat) (D L:Nat → Nat → Bool):Prop where
 strict:StrictM f o
 ok:LoopOk f.blocks o pl par D L
theorem lorder_len {bs:List BlockM} {o:List Nat} (ho:OrderIs bs o) (hr:∀ x ∈ o,x < bs.length) (hA:AllIn bs o):o.length=bs.length:=by
 have h1:=below_len _ _ ho.facts.2.1 hr
 have h2:=sub_len ((List.range bs.length).map fun (x:Nat) => (x:Int)) (o.map fun (x:Nat) => (x:Int)) (List.pairwise_map.2 (List.nodup_range.imp fun h e => h (by omega))) (fun x hx => by
  obtain ⟨y,hy,rfl⟩:=List.mem_map.1 hx
  exact List.mem_map.2 ⟨y,hA y (by simpa using hy),rfl⟩)
 rw [List.length_map,List.length_map,List.length_range] at h2
 omega
def LfPost (f:FuncM) (pv bv:Value) (w:World) (e:Ending) (w':World):Prop :=
 (∃ x y:Int,CheckIs f (x,y) ∧ y ≠ 0 ∧ e=.returned (.tuple #[.agg #[.slice none 0 0,.int .i64 0,.int .i64 0,.slice none 0 0,.slice none 0 0,.slice none 0 0,.slice none 0 0],.int .i64 y]) ∧ Below w.heap.size w w') ∨
 (∃ (o:List Nat) (pl:Nat → Nat) (par:Nat → Option Nat) (D L:Nat → Nat → Bool) (gp:Nat) (vs:List Value) (gi gl:Nat),LoopsOf f o pl par D L ∧ e=.returned (.tuple #[.agg #[pv,.int .i64 f.arrays,.int .i64 f.cells,bv,.slice (some ⟨gp,0,none⟩) f.blocks.length f.blocks.length,.slice (some ⟨gi,0,none⟩) f.blocks.length f.blocks.length,.slice (some ⟨gl,0,none⟩) f.blocks.length f.blocks.length],.int .i64 0]) ∧ LfAt w' (w.heap.size + 2) f.blocks o pl par gp vs gi gl ∧ Below w.heap.size w w')
set_option maxRecDepth 100000 in
set_option maxHeartbeats 4000000 in
theorem lFunc_any (f:FuncM) (B:Nat) (pv bv:Value) (w:World) (hpv:Ints w B pv f.params) (hbv:BlocksR w B bv f.blocks) (hB:B ≤ w.heap.size) (hid:∀ u ∈ usesM f,I64 u.1) :
  Calls Tryz.prog 210 #[.agg #[pv,.int .i64 f.arrays,.int .i64 f.cells,bv]] w (LfPost f pv bv w):=by
 have HP:=hideI hpv
 have HBL:=hideI hbv
 have HID:=hideI hid
 obtain ⟨P,pc,rfl,_⟩:=hpv
 obtain ⟨A,c,rfl,hbm,_⟩:=hbv
 obtain ⟨W0,hW0⟩:∃ W0,W0=(w.alloc (.cells #[.slice P f.params.length pc,.int .i64 f.arrays,.int .i64 f.cells,.slice A f.blocks.length c] 25)).alloc (.cells #[.slice none 0 0,.int .i64 0,.int .i64 0,.slice none 0 0,.slice none 0 0,.slice none 0 0,.slice none 0 0] 224):=⟨_,rfl⟩
 have hB0:Below w.heap.size w W0:=by rw [hW0];exact ((Below.refl _ w).alloc (Nat.le_refl _) _).alloc (by simp) _
 have hs0:W0.heap.size=w.heap.size + 2:=by rw [hW0];simp
 have hbox:W0.heap[w.heap.size]?=some (.cells #[.slice P f.params.length pc,.int .i64 f.arrays,.int .i64 f.cells,.slice A f.blocks.length c] 25 (0,0)):=by
  rw [hW0,Below.heap_alloc _ _ _ (by simp)]
  exact heap_alloc_new w _
 have hres:W0.heap[w.heap.size + 1]?=some (.cells #[.slice none 0 0,.int .i64 0,.int .i64 0,.slice none 0 0,.slice none 0 0,.slice none 0 0,.slice none 0 0] 224 (0,0)):=by
  rw [hW0]
  have:=heap_alloc_new (w.alloc (.cells #[.slice P f.params.length pc,.int .i64 f.arrays,.int .i64 f.cells,.slice A f.blocks.length c] 25)) (.cells #[.slice none 0 0,.int .i64 0,.int .i64 0,.slice none 0 0,.slice none 0 0,.slice none 0 0,.slice none 0 0] 224)
  simpa using this
 have HW0:=hideI hW0
 have HB0:=hideI hB0
 have HS0:=hideI hs0
 have G0:Hid (∀ W,Below W0.heap.size W0 W → (∀ o,W.cell? ⟨w.heap.size,o,none⟩=(#[.slice P f.params.length pc,.int .i64 f.arrays,.int .i64 f.cells,.slice A f.blocks.length c]:Array Value)[o]?) ∧ (∀ o,W.cell? ⟨w.heap.size + 1,o,none⟩=(#[.slice none 0 0,.int .i64 0,.int .i64 0,.slice none 0 0,.slice none 0 0,.slice none 0 0,.slice none 0 0]:Array Value)[o]?) ∧ (∀ o,W.frozen? ⟨w.heap.size + 1,o,none⟩=false)):=fun W hW => by
  have h1:=hW.block w.heap.size (by omega)
  have h2:=hW.block (w.heap.size + 1) (by omega)
  exact ⟨row_cells hbox h1,row_cells hres h2,fun o => free_rowN hres h2 o⟩
 have HPW:Hid (∀ W,Below W0.heap.size W0 W → Ints W B (.slice P f.params.length pc) f.params ∧ BlocksR W B (.slice A f.blocks.length c) f.blocks ∧ Below w.heap.size w W):=fun W hW => by
  have h1:Below w.heap.size w W:=HB0.out.trans (hW.mono (by omega))
  exact ⟨HP.out.keeps (Keeps.of_below (h1.mono hB)),HBL.out.keeps (Keeps.of_below (h1.mono hB)),h1⟩
 obtain ⟨q1,q2,q3⟩:=G0.out W0 (Below.refl _ _)
 have b0:=q1 0
 have b1:=q1 1
 have b2:=q1 2
 have b3:=q1 3
 have hBW0:B ≤ W0.heap.size:=by omega
 have HCK:=hideI (sCheck_any f B _ _ W0 (HPW.out _ (Below.refl _ _)).1 (HPW.out _ (Below.refl _ _)).2.1 hBW0 HID.out)
 clear hid hW0 hB0 hs0 hbox hres q1 q2 q3
 by_cases hst:∃ o,StrictM f o
 ·obtain ⟨o,hst⟩:=hst
  have HS:=hideI hst
  have hnb:=look_some_block hst.look
  have hn0:=hnb.1
  have hn5:=hnb.2
  have HR:=hideI (hst.order.range (look_ends hst.look) hn0)
  have hol:=lorder_len hst.order HR.out hst.come
  obtain ⟨i0,hix,hz0,hz1,hz2⟩:=info_parts int_info
  clear hst hnb
  go_enter Tryz.func210,Tryz.ntmps210
  go_upto_region 1 with fail
  rw [← HW0.out]
  go_wp2_with (first
   | (go_at_call 38;go_must (refine HCK.out.mono ?_);rintro e w1 ⟨x1,y1,rfl,hci,hb1⟩;(obtain ⟨rfl,rfl⟩:=Prod.mk.inj (HS.out.check hci));have HB1:=hideI hb1;obtain ⟨q1,q2,q3⟩:=G0.out _ hb1;clear b0 b1 b2 b3;have b0:=q1 0;have b1:=q1 1;have b2:=q1 2;have b3:=q1 3;clear q1 q2 q3 hb1 hci)
   | (go_at_call 111;go_must (refine (gPreds_yes f B _ _ _ (HPW.out _ HB1.out).1 (HPW.out _ HB1.out).2.1 (Nat.le_trans hBW0 HB1.out.size) HID.out HS.out.look).mono ?_);rintro e w2 ⟨gp,vs,rfl,hls,hb2⟩;have HLS:=hideI (hls.mono HB1.out.size);have HB2:=hideI (HB1.out.trans (hb2.mono HB1.out.size));obtain ⟨q1,q2,q3⟩:=G0.out _ HB2.out;clear b0 b1 b2 b3;have b0:=q1 0;have b1:=q1 1;have b2:=q1 2;have b3:=q1 3;clear q1 q2 q3 hb2 hls)
   | (go_at_call 125;go_must (refine (idoms_any f B _ _ _ (HPW.out _ HB2.out).1 (HPW.out _ HB2.out).2.1 (Nat.le_trans hBW0 HB2.out.size) HID.out).mono ?_);rintro e w3 (⟨hbad,_⟩ | ⟨_,o3,pl,par,capo3,gi,rfl,hfs,hdone,hown,hb3⟩);(exact absurd HS.out.look hbad);(obtain rfl:=HS.out.order.one hfs.order);have HFS:=hideI hfs;have HDONE:=hideI hdone;have HOI:=hideI (World.ownsRow.mono hown HB2.out.size);replace HLS:=hideI (HLS.out.kept hb3);have HB3:=hideI (HB2.out.trans (hb3.mono HB2.out.size));obtain ⟨q1,q2,q3⟩:=G0.out _ HB3.out;clear b0 b1 b2 b3;have b0:=q1 0;have b1:=q1 1;have b2:=q1 2;have b3:=q1 3;clear q1 q2 q3 hfs hdone hown hb3)
   | (go_at_call 46;go_must (refine (gOrder_yes f B _ _ _ (HPW.out _ HB3.out).1 (HPW.out _ HB3.out).2.1 (Nat.le_trans hBW0 HB3.out.size) HID.out HS.out.look).mono ?_);rintro e w4 ⟨o4,go,capo,rfl,ho,ho0,ho1,hown,hb4⟩;(obtain rfl:=HS.out.order.one ho);have HOO:=hideI (World.ownsRow.mono hown HB3.out.size);replace HLS:=hideI (HLS.out.kept hb4);replace HOI:=hideI (own_kept_below HOI.out hb4 (fun k hk => (HOI.out.lt k hk).2));have HB4:=hideI (HB3.out.trans (hb4.mono HB3.out.size));clear b0 b1 b2 b3 ho hown hb4;rw [hol])
   | (at_make;go_must (refine wpList_make_full _ rfl _ _ 22 rfl W0.heap.size 3 i0 (.int .i64 0) 1 Tryz.underlying22 hix hz0 hz1 .i64 .i64 _ _ f.blocks.length rfl rfl rfl rfl (by rw [hz2];omega) (by unfold maxLen;omega) (HB4.out.size) ?_);intro w5 hown5 hg5;go_must (have HB5:Hid (Below w4.heap.size w4 w5):=hideI ((Below.refl _ _).grown hg5 (Nat.le_refl _) (by simp));have HO5:=hideI hown5;clear hown5 hg5)))
  have hpl0:w5.ownsRow W0.heap.size 3 1 (.slice (some ⟨w4.heap.size,0,none⟩) f.blocks.length f.blocks.length) f.blocks.length (plcs f.blocks.length (o.take 0) pl):=by
   have h1:=HO5.out
   rw [show (Value.int IntKind.i64 0).cells=#[Value.int .i64 0] from rfl,toList_madeCells_one,Nat.mul_one] at h1
   rw [List.take_zero,plcs_none]
   exact h1
  have HPL:=hideI hpl0
  clear hpl0 hix hz0 hz1 hz2 HO5
  go_loopw [44] (fun u wr => ∃ i:Nat,i ≤ f.blocks.length ∧ u=.int .i64 i ∧ Hid (wr.ownsRow W0.heap.size 3 1 (.slice (some ⟨w4.heap.size,0,none⟩) f.blocks.length f.blocks.length) f.blocks.length (plcs f.blocks.length (o.take i) pl)) ∧ Hid (Below w4.heap.size w4 wr)) (fun u _ => f.blocks.length - (intOf u).toNat)
  case atStart => exact ⟨0,Nat.zero_le _,rfl,HPL,HB5⟩
  case round =>
   obtain ⟨i,hi,rfl,HPr,HBr⟩:=hrel
   by_cases hlt:i < f.blocks.length
   ·obtain ⟨x,hx⟩:∃ x,o[i]?=some x:=⟨_,List.getElem?_eq_getElem (by omega)⟩
    have hxl:=HR.out x (List.mem_of_getElem? hx)
    have c1:=nat_cell (own_kept_below HOO.out HBr.out (fun k hk => (HOO.out.lt k hk).2)) hx
    have c2:wr.cell? ⟨w4.heap.size,x,none⟩=some (.int .i64 (if x ∈ o.take i then ((pl x:Nat):Int) else 0)):=by rw [World.ownsRow.cellAt HPr.out x (by omega)];exact plcs_any hxl
    obtain ⟨old,hold⟩:∃ old:Int,old=(if x ∈ o.take i then ((pl x:Nat):Int) else 0):=⟨_,rfl⟩
    rw [← hold] at c2
    have c3:wr.frozen? ⟨w4.heap.size,x,none⟩=false:=World.ownsRow.frozenAt HPr.out x
    have hst:=World.ownsRow.stored HPr.out x (.int .i64 (i:Int))
    rw [plcs_set hx (HFS.out.ord.place i x hx)] at hst
    have HST:=hideI hst.1
    have HSB:Hid (Below w4.heap.size w4 (wr.setCell ⟨w4.heap.size,x,none⟩ (.int .i64 (i:Int)))):=HBr.out.setCell (Nat.le_refl _) _
    clear hx hst hold
    go_wp2
    go_roundw
    case rel => exact ⟨i + 1,by omega,by go_num,HST,HSB⟩
    case measure => simp [intOf];omega
   ·have hil:i=o.length:=by omega
    have HP2:Hid (wr.ownsRow W0.heap.size 3 1 (.slice (some ⟨w4.heap.size,0,none⟩) f.blocks.length f.blocks.length) f.blocks.length (plcs f.blocks.length o pl)):=by
     have h1:=HPr.out
     rw [hil,List.take_of_length_le (Nat.le_refl _)] at h1
     exact h1
    have HBF:Hid (Below W0.heap.size W0 wr):=HB4.out.trans (HBr.out.mono HB4.out.size)
    obtain ⟨q1,q2,q3⟩:=G0.out _ HBF.out
    have b0:=q1 0
    have b1:=q1 1
    have b2:=q1 2
    have b3:=q1 3
    have s0:=q2 0
    have s1:=q2 1
    have s2:=q2 2
    have s3:=q2 3
    have s4:=q2 4
    have s5:=q2 5
    have s6:=q2 6
    have g0:=q3 0
    have g1:=q3 1
    have g2:=q3 2
    have g3:=q3 3
    have g4:=q3 4
    have g5:=q3 5
    have g6:=q3 6
    have hs0:=HS0.out
    have hsr:W0.heap.size ≤ wr.heap.size:=HBF.out.size
    have HLF:Hid (LfAt wr W0.heap.size f.blocks o pl par gp vs gi w4.heap.size):=⟨HLS.out.kept HBr.out,own_kept_below HOI.out HBr.out (fun k hk => (HOI.out.lt k hk).2),HP2.out⟩
    clear q1 q2 q3 hil HPr
    go_wp2
    obtain ⟨D,L,hDL⟩:=loopF_exists f.blocks o
    refine bodyPost_ret (v:=.tuple #[.agg #[.slice P f.params.length pc,.int .i64 f.arrays,.int .i64 f.cells,.slice A f.blocks.length c,.slice (some ⟨gp,0,none⟩) f.blocks.length f.blocks.length,.slice (some ⟨gi,0,none⟩) f.blocks.length f.blocks.length,.slice (some ⟨w4.heap.size,0,none⟩) f.blocks.length f.blocks.length],.int .i64 0]) (by simp [results,Tryz.results210,go_sem,s0,s1,s2,s3,s4,s5,s6]) rfl (.inr ⟨o,pl,par,D,L,gp,vs,gi,w4.heap.size,⟨HS.out,HFS.out.ord,HDONE.out,HS.out.come,HR.out,hn5,hDL⟩,rfl,?_,?_⟩)
    ·rw [← HS0.out]
     have hl:w.heap.size + 1 < W0.heap.size:=by omega
     exact ((((((HLF.out.other hl _).other hl _).other hl _).other hl _).other hl _).other hl _).other hl _
    ·exact (((((((HPW.out _ HBF.out).2.2.setCell (by simp) _).setCell (by simp) _).setCell (by simp) _).setCell (by simp) _).setCell (by simp) _).setCell (by simp) _).setCell (by simp) _
 ·have hno:∀ x:Int,¬ CheckIs f (x,0):=fun x hx => hst (strict_of hx).2
  have HNO:=hideI hno
  clear hst hno
  go_enter Tryz.func210,Tryz.ntmps210
  go_upto_region 1 with fail
  rw [← HW0.out]
  go_wp2_with (first
   | (go_at_call 38;go_must (refine HCK.out.mono ?_);rintro e w1 ⟨x1,y1,rfl,hci,hb1⟩;have hy:(y1 != 0)=true:=(by rw [bne_iff_ne];rintro rfl;exact HNO.out _ hci);have HCI:=hideI hci;have HY:=hideI hy;have HB1:=hideI hb1;obtain ⟨q1,q2,q3⟩:=G0.out _ hb1;clear b0 b1 b2 b3;have s0:=q2 0;have s1:=q2 1;have s2:=q2 2;have s3:=q2 3;have s4:=q2 4;have s5:=q2 5;have s6:=q2 6;have g0:=q3 0;have g1:=q3 1;have g2:=q3 2;have g3:=q3 3;have g4:=q3 4;have g5:=q3 5;have g6:=q3 6;clear q1 q2 q3 hb1 hci))
  refine bodyPost_ret (v:=.tuple #[.agg #[.slice none 0 0,.int .i64 0,.int .i64 0,.slice none 0 0,.slice none 0 0,.slice none 0 0,.slice none 0 0],.int .i64 y1]) (by simp [results,Tryz.results210,go_sem,s0,s1,s2,s3,s4,s5,s6]) rfl (.inl ⟨x1,y1,HCI.out,by simpa using HY.out,rfl,?_⟩)
  exact (((((((HPW.out _ HB1.out).2.2.setCell (by simp) _).setCell (by simp) _).setCell (by simp) _).setCell (by simp) _).setCell (by simp) _).setCell (by simp) _).setCell (by simp) _
end Go.Proofs.YtikogmpibkefdaaGreat
