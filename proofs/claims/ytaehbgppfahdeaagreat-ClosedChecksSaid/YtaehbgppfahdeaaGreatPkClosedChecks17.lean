/- What ClosedChecks rests on, part 17: Ids, FirstNew, SizeA, ClChanged, KeysV, EachAt3, Turn, Closed0. -/
import Derived.Test.YtaehbgppfahdeaaGreatPkClosedChecks16
import Derived.IntWalk
import Derived.BigQuiet
import Derived.Deep.QuietTactic
import Derived.Deep.LoopGhost

namespace Go.Proofs.YtaehbgppfahdeaaGreat
open Go.RowKit Go.Maps Go.Sort Go.Shelf
theorem MapIs.keys {w:World} {M:Nat} {ds:Defs} {D:DataW Unit} (hown:w.ownsMap Tryz.prog 3 (plainElem Tryz.prog 3) M ds.length D) (hat:∀ id z,D.atKey (.int .i64 id) z=match ds.at id with|some t=>.lit (.int .i64 t)|none=>z) (hn:(ds.map (·.1)).Nodup) :
  (ds.map (·.1)).Perm (intKeys D):=by
 refine CollectedI.perm (left:=fun _=>false) ⟨hn,fun x=>?_⟩ hown lawInt Tryz.underlying3 (fun _=>rfl)
 rw[MapIs.has hat x,at_some]
 simp
theorem mapsKeys (mb:Option Nat) (W:World):Calls Tryz.prog 225 #[.map mb] W fun e w'=>e=.returned (.func (.func 241) #[] #[.pointer (some ⟨W.heap.size,0,none⟩)])∧w'=W.alloc (.cells #[.map mb] 127) :=
 (callsIn_wide (n:=5)).1 (AnyZI.keys_in keysL Fence.wide 5 trivial rfl mb W)
theorem sortedKeys' {H:Type} (b nn:Nat) (D0:DataW H) (R:Value→Option (DataW H×List MemPlace)) (w:World) (hown:w.ownsMap Tryz.prog 3 R b nn D0) (hmax:Maps.size D0≤maxLen) (hbytes:Maps.size D0*8≤140737488355328) :
  Calls Tryz.prog 53 #[.func (.func 241) #[] #[.pointer (some ⟨w.heap.size,0,none⟩)]] (w.alloc (.cells #[.map (some b)] 127)) fun e w'=>∃ (v:Value) (ss:List Int),e=.returned v∧ss.Perm (intKeys D0) ∧
   w'.ownsRow (w.alloc (.cells #[.map (some b)] 127)).heap.size 3 1 v ss.length ((ss.mergeSort (fun x y=>decide (x≤y))).map encZ)∧(v=.slice none 0 0↔ss=[])∧Below (w.alloc (.cells #[.map (some b)] 127)).heap.size (w.alloc (.cells #[.map (some b)] 127)) w':=by
 have hbl:=hown.lt
 have hseq:SeqGives Fence.wide 2 Tryz.prog 241 #[.pointer (some ⟨w.heap.size,0,none⟩)] encZ (fun ss=>ss.Perm (intKeys D0)) (Maps.size D0) (w.alloc (.cells #[.map (some b)] 127)) :=
  AnyZI.keys_gives (ρ:=keysL_ren) { keysL with } Fence.wide _ trivial rfl (by omega) w.heap.size b nn D0 _ (by simp) (by simp) (by
   obtain⟨es,clock,hb,Ft,hs,hD⟩:=hown
   exact⟨es,clock,(Below.heap_alloc _ _ b hbl).trans hb,Ft,hs,hD⟩)
 exact(callsIn_wide (n:=5)).1 (AnyZI.sorted_in sortedL Fence.wide 5 trivial trivial trivial trivial rfl (by omega) (sortsL _) (enters_of Tryz.func89 (by kernel_rfl) rfl) 241 #[.pointer (some ⟨w.heap.size,0,none⟩)] trivial (enters_of Tryz.func241 (by kernel_rfl) rfl) _ _ hmax hbytes _ hseq)
theorem sortedKeys {H:Type} (b nn:Nat) (D0:DataW H) (R:Value→Option (DataW H×List MemPlace)) (w:World) (n:Nat) (hn:n=w.heap.size) (hown:w.ownsMap Tryz.prog 3 R b nn D0) (hmax:Maps.size D0≤maxLen) (hbytes:Maps.size D0*8≤140737488355328) :
  Calls Tryz.prog 53 #[.func (.func 241) #[] #[.pointer (some ⟨n,0,none⟩)]] (w.alloc (.cells #[.map (some b)] 127)) fun e w'=>∃ (v:Value) (ss:List Int),e=.returned v∧ss.Perm (intKeys D0) ∧
   w'.ownsRow (n+1) 3 1 v ss.length ((ss.mergeSort (fun x y=>decide (x≤y))).map encZ)∧Below (n+1) (w.alloc (.cells #[.map (some b)] 127)) w':=by
 subst hn
 refine(sortedKeys' b nn D0 R w hown hmax hbytes).mono ?_
 rintro e w' ⟨v,ss,rfl,hS,hrow,_,hb⟩
 exact⟨v,ss,rfl,hS,by simpa using hrow,by simpa using hb⟩
def IdsPost (f:FuncM) (w:World) (e:Ending) (w':World):Prop :=
 ∃ v,e=.returned (.tuple #[v,.int .i64 (lookM f).1])∧NewInts w.heap.size w' v (idsOut f)∧Below w.heap.size w w'
set_option maxHeartbeats 1000000 in
theorem ids_any (f:FuncM) (B:Nat) (pv bv:Value) (w:World) (hpv:Ints w B pv f.params) (hbv:BlocksR w B bv f.blocks) (hB:B≤w.heap.size) (hid:∀ u∈usesM f,I64 u.1) :
  Calls Tryz.prog 197 #[.agg #[pv,.int .i64 f.arrays,.int .i64 f.cells,bv]] w (IdsPost f w):=by
 have HP:=hideI hpv
 have HB:=hideI hbv
 have HID:=hideI hid
 obtain⟨P,pc,rfl,_⟩:=hpv
 obtain⟨A,c,rfl,_⟩:=hbv
 have hk:Keeps B w (w.alloc (.cells #[.slice P f.params.length pc,.int .i64 f.arrays,.int .i64 f.cells,.slice A f.blocks.length c] 25)):=(Keeps.refl w).alloc hB _
 have HL:=hideI (lookAt_any f B _ _ _ (HP.out.keeps hk) (HB.out.keeps hk) (by simp;omega) HID.out)
 clear hid hk
 go_enter Tryz.func197,Tryz.ntmps197
 go_wp2_with fail
 refine HL.out.mono ?_
 rintro e w1 ⟨hb1,h|h⟩
 ·obtain⟨h0,M,hM,rfl,hm⟩:=h
  have HB1:=hideI (below_one (hb1.mono (by simp)))
  obtain⟨D,hown,hD,hwd,hat⟩:=hm
  have hnd:=formed_nodup (look_formed h0)
  have hpm:=MapIs.keys hown hat hnd
  have hsl:=hown.size_le
  have hl:=look_len h0
  have HS:=hideI (sortedKeys M _ D _ _ (w1.heap.size+1) (by simp) (hown.alloc (.cells #[.slice P f.params.length pc,.int .i64 f.arrays,.int .i64 f.cells,.slice A f.blocks.length c,.map (some M)] 129)) (by unfold maxLen;omega) (by omega))
  have HPM:=hideI hpm
  have HLEN:=hideI hl
  have H0:=hideI h0
  clear hb1 h0 hat hwd hpm hsl hl hnd hown
  go_wp2_with (first
   | (go_at_call 225;refine(mapsKeys _ _).mono ?_;rintro e w2 ⟨rfl,rfl⟩)
   | (go_at_call 53;refine HS.out.mono ?_;rintro e w3 ⟨v,ss,rfl,hS,hrow,hb3⟩;have HR:=hideI hrow;have HSS:=hideI hS;have HB3:=hideI hb3;clear hS hrow hb3))
  go_ret2
  have e1:idsOut f=ss.mergeSort fun x y=>decide (x≤y):=by
   unfold idsOut idsS
   rw[if_pos H0.out]
   exact mergeSort_of_perm_i (HPM.out.trans HSS.out.symm)
  refine⟨v,by rw[H0.out];rfl,?_,?_⟩
  ·rw[e1]
   have h1:=newInts_own HR.out (by rw[List.length_mergeSort,HSS.out.length_eq,← HPM.out.length_eq,List.length_map];have:=HLEN.out;omega)
   obtain⟨A2,c2,hv,hm2,hx2⟩:=h1
   exact⟨A2,c2,hv,hm2,fun hp=>by obtain⟨g,cs,q1,q2,q3⟩:=hx2 hp;exact⟨g,cs,q1,by have:=HB1.out.size;omega,q3⟩⟩
  ·exact((HB1.out.alloc HB1.out.size _).alloc (by have:=HB1.out.size;simp;omega) _).trans (HB3.out.mono (by have:=HB1.out.size;simp;omega))
 ·obtain⟨h0,rfl⟩:=h
  have HB1:=hideI (below_one (hb1.mono (by simp)))
  have hb:((lookM f).1 != 0)=true:=by simpa using h0
  have H0:=hideI h0
  clear hb1 h0
  go_wp2
  go_ret2
  exact⟨_,rfl,by unfold idsOut;rw[if_neg H0.out];exact NewInts.nil _ _,HB1.out.alloc HB1.out.size _⟩
end Go.Proofs.YtaehbgppfahdeaaGreat

namespace Go.Proofs.YtaehbgppfahdeaaGreat
open Go.RowKit Go.Maps
def roomM (f:FuncM):Int:=match (idsOut f).getLast? with|some x=>x+1|none=>0
set_option maxRecDepth 100000 in
set_option maxHeartbeats 1000000 in
theorem roomFor_any (f:FuncM) (B:Nat) (pv bv:Value) (w:World) (hpv:Ints w B pv f.params) (hbv:BlocksR w B bv f.blocks) (hB:B≤w.heap.size) (hid:∀ u∈usesM f,I64 u.1) (hr:∀ x∈idsOut f,0≤x∧x≤1048575) :
  Calls Tryz.prog 146 #[.agg #[pv,.int .i64 f.arrays,.int .i64 f.cells,bv]] w fun e w'=>e=.returned (.int .i64 (roomM f))∧Below w.heap.size w w':=by
 have HP:=hideI hpv
 have HB:=hideI hbv
 obtain⟨P,pc,rfl,_⟩:=hpv
 obtain⟨A,c,rfl,_⟩:=hbv
 obtain⟨W0,hW0⟩:∃ W0:World,W0=w.alloc (.cells #[.slice P f.params.length pc,.int .i64 f.arrays,.int .i64 f.cells,.slice A f.blocks.length c] 25):=⟨_,rfl⟩
 have hb0:Below w.heap.size w W0:=by rw[hW0];exact(Below.refl _ w).alloc (Nat.le_refl _) _
 have hx0:W0.heap[w.heap.size]?=some (.cells #[.slice P f.params.length pc,.int .i64 f.arrays,.int .i64 f.cells,.slice A f.blocks.length c] 25 (0,0)):=by rw[hW0];exact heap_alloc_new w _
 have hk:Keeps B w W0:=Keeps.of_below (hb0.mono hB)
 have HC:=hideI (ids_any f B _ _ W0 (HP.out.keeps hk) (HB.out.keeps hk) (Nat.le_trans hB hb0.size) hid)
 have HB0:=hideI hb0
 have HW0:=hideI hW0
 have q:=row_cells hx0 rfl
 have q0:=q 0
 have q1:=q 1
 have q2:=q 2
 have q3:=q 3
 have HR:=hideI hr
 clear q hb0 hx0 hk hW0 hid hr
 obtain⟨ids,hids⟩:∃ ids,ids=idsOut f:=⟨_,rfl⟩
 have HIDS:=hideI hids
 unfold IdsPost at HC
 rw[← hids]at HC HR
 clear hids
 go_enter Tryz.func146,Tryz.ntmps146
 go_upto_region 1 with fail
 rw[← HW0.out]
 cases hl:ids.getLast? with
 | none =>
  obtain rfl:ids=[]:=by simpa using hl
  have HE:Hid (roomM f=0):=hideI (by unfold roomM;rw[← HIDS.out];rfl)
  clear hl
  go_wp2_with (first|(go_at_call 197;refine HC.out.mono ?_;rintro e w1 ⟨v,rfl,⟨A1,c1,hv,_,_⟩,hb⟩;obtain rfl:v=.slice A1 0 c1:=hv;have HB1:=hideI hb;clear hb))
  go_ret
  exact⟨by rw[HE.out];rfl,HB0.out.trans (HB1.out.mono HB0.out.size)⟩
 | some x =>
  obtain⟨r,hr⟩:∃ r,ids=r++[x]:=by
   cases hl2:ids.reverse with
   | nil => have:ids=[]:=by simpa using hl2
            subst this;cases hl
   | cons a r =>
    have hle:ids=r.reverse++[a]:=by rw[← List.reverse_reverse ids,hl2,List.reverse_cons]
    rw[hle,List.getLast?_append]at hl
    simp at hl
    subst hl
    exact⟨_,hle⟩
  have hxr:=HR.out x (by rw[hr];simp)
  have HE:Hid (roomM f=x+1):=hideI (by unfold roomM;rw[← HIDS.out,hl])
  have hlen:ids.length=r.length+1:=by rw[hr];simp
  have HLAST:Hid (ids[r.length]?.getD 0=x):=hideI (by rw[hr];simp)
  obtain⟨n,hn⟩:∃ n,n=r.length:=⟨_,rfl⟩
  rw[← hn]at hlen HLAST
  have HLEN:=hideI hlen
  have hw:IntKind.i64.wrap (x+1)=x+1:=IntWalk.i64_in _ (by omega)
  have hw2:wrap64 (x+1)=x+1:=by unfold wrap64;omega
  clear hl hr hn hlen
  go_wp2_with (first|(go_at_call 197;refine HC.out.mono ?_;rintro e w1 ⟨v,rfl,⟨A1,c1,hv,hle,hnew⟩,hb⟩;obtain⟨g1,cs1,rfl,_,hg1,hc1⟩:=hnew (by rw[HLEN.out];omega);rw[HLEN.out]at hv hle;obtain rfl:v=.slice (some ⟨g1,0,none⟩) (n+1) c1:=hv;have HB1:=hideI hb;have y0:w1.cell? ⟨g1,n,none⟩=some (.int .i64 x):=(cell_of_row w1 g1 n cs1 _ (0,0) hg1).trans ((hc1 n (by rw[HLEN.out];omega)).trans (by rw[HLAST.out]));clear hb hnew hg1 hc1))
  go_ret
  exact⟨by rw[HE.out];rfl,HB0.out.trans (HB1.out.mono HB0.out.size)⟩
end Go.Proofs.YtaehbgppfahdeaaGreat

namespace Go.Proofs.YtaehbgppfahdeaaGreat
open Go.RowKit Go.Maps
def sizeOut (f:FuncM):Int:=if (lookM f).1=0 then (sizeM f:Int)else 0
set_option maxHeartbeats 1000000 in
theorem size_any (f:FuncM) (B:Nat) (pv bv:Value) (w:World) (hpv:Ints w B pv f.params) (hbv:BlocksR w B bv f.blocks) (hB:B≤w.heap.size) (hid:∀ u∈usesM f,I64 u.1) :
  Calls Tryz.prog 145 #[.agg #[pv,.int .i64 f.arrays,.int .i64 f.cells,bv]] w fun e w'=>e=.returned (.tuple #[.int .i64 (sizeOut f),.int .i64 (lookM f).1])∧Below w.heap.size w w':=by
 have HP:=hideI hpv
 have HB:=hideI hbv
 have HID:=hideI hid
 obtain⟨P,pc,rfl,_⟩:=hpv
 obtain⟨A,c,rfl,_⟩:=hbv
 have hk:Keeps B w (w.alloc (.cells #[.slice P f.params.length pc,.int .i64 f.arrays,.int .i64 f.cells,.slice A f.blocks.length c] 25)):=(Keeps.refl w).alloc hB _
 have HL:=hideI (lookAt_any f B _ _ _ (HP.out.keeps hk) (HB.out.keeps hk) (by simp;omega) HID.out)
 clear hid hk
 go_enter Tryz.func145,Tryz.ntmps145
 go_wp2_with fail
 refine HL.out.mono ?_
 rintro e w1 ⟨hb1,h|h⟩
 ·obtain⟨h0,M,hM,rfl,hm⟩:=h
  have H0:=hideI h0
  have HB1:=hideI (below_one (hb1.mono (by simp)))
  have HS:=hideI (lookSize_any f.blocks B (.slice P f.params.length pc) (.int .i64 f.arrays) (.int .i64 f.cells) (.slice A f.blocks.length c) (.map (some M)) (w1.alloc (.cells #[.slice P f.params.length pc,.int .i64 f.arrays,.int .i64 f.cells,.slice A f.blocks.length c,.map (some M)] 129)) (HB.out.keeps ((Keeps.of_below (HB1.out.mono hB)).alloc (Nat.le_trans hB HB1.out.size) _)) (by have:=HB1.out.size;simp;omega) (look_bd h0))
  clear hb1 hm h0
  go_wp2_with (go_at_call 196;refine HS.out.mono ?_;rintro e w2 ⟨rfl,hb2⟩;have HB2:=hideI hb2;clear hb2)
  go_ret2
  exact⟨by unfold sizeOut;rw[H0.out,if_pos rfl];rfl,(HB1.out.alloc HB1.out.size _).trans (HB2.out.mono (by have:=HB1.out.size;simp;omega))⟩
 ·obtain⟨h0,rfl⟩:=h
  have HB1:=hideI (below_one (hb1.mono (by simp)))
  have hb:((lookM f).1 != 0)=true:=by simpa using h0
  have H0:=hideI h0
  clear hb1 h0
  go_wp2
  go_ret2
  exact⟨by unfold sizeOut;rw[if_neg H0.out];rfl,HB1.out.alloc HB1.out.size _⟩
end Go.Proofs.YtaehbgppfahdeaaGreat

namespace Go.Proofs.YtaehbgppfahdeaaGreat
open Go.RowKit Go.Maps
def ClChangedPost (f:FuncM) (w:World) (e:Ending) (w':World):Prop :=
 ∃ (v1:Vals) (base:Nat) (P:Option Addr) (pc:Nat) (A:Option Addr) (c:Nat) (nx rm:Int) (M:Nat),e=.returned (.agg #[.slice P f.params.length pc,.int .i64 f.arrays,.int .i64 f.cells,.slice A f.blocks.length c,.int .i64 nx,.int .i64 rm,.map (some M)])∧v1 .params=.slice P f.params.length pc∧v1 .blocks=.slice A f.blocks.length c∧OwnG w' base (rowOf f v1) v1 (EE f f.blocks.length)∧w.heap.size≤base∧w.heap.size≤M∧(∀ t,EE f f.blocks.length t→(v1 t).ownBlock≠some M)∧MapV w' M 0 (fun _=>none)∧Below w.heap.size w w'
theorem MapV.other {w:World} {M n j off:Nat} {F:Int→Option Value} (h:MapV w M n F) (hj:j≠M) (u:Value):MapV (w.setCell ⟨j,off,none⟩ u) M n F:=h.same (heap_setCell_other w ⟨j,off,none⟩ M u (fun e=>hj e.symm))
set_option maxRecDepth 100000 in
set_option maxHeartbeats 4000000 in
theorem clChanged_any (f:FuncM) (B:Nat) (pv bv:Value) (w:World) (hpv:Ints w B pv f.params) (hbv:BlocksR w B bv f.blocks) (hB:B≤w.heap.size) (hid:∀ u∈usesM f,I64 u.1) (hr:∀ x∈idsOut f,0≤x∧x≤1048575) (h0:(lookM f).1=0) (hf:FnFits f) (hroom:0≤roomM f∧roomM f≤1048576) (hso:sizeOut f=(sizeM f:Int)) :
  Calls Tryz.prog 94 #[.agg #[pv,.int .i64 f.arrays,.int .i64 f.cells,bv]] w (ClChangedPost f w):=by
 have hmm:=@run_makeMap Tryz.prog
 have HP:=hideI hpv
 have HBL:=hideI hbv
 obtain⟨P,pc,rfl,_⟩:=hpv
 obtain⟨A,c,rfl,_⟩:=hbv
 obtain⟨W,hW⟩:∃ W:World,W=(w.alloc (.cells #[.slice P f.params.length pc,.int .i64 f.arrays,.int .i64 f.cells,.slice A f.blocks.length c] 25)).alloc (.cells #[.slice none 0 0,.int .i64 0,.int .i64 0,.slice none 0 0,.int .i64 0,.int .i64 0,.map none] 163):=⟨_,rfl⟩
 have HB0:Hid (Below w.heap.size w W):=by show Below _ _ _;rw[hW];exact((Below.refl _ w).alloc (Nat.le_refl _) _).alloc (by simp) _
 have hx1:W.heap[w.heap.size]?=some (.cells #[.slice P f.params.length pc,.int .i64 f.arrays,.int .i64 f.cells,.slice A f.blocks.length c] 25 (0,0)):=by
  rw[hW,Below.heap_alloc _ _ _ (by simp)]
  exact heap_alloc_new w _
 have hx2:W.heap[w.heap.size+1]?=some (.cells #[.slice none 0 0,.int .i64 0,.int .i64 0,.slice none 0 0,.int .i64 0,.int .i64 0,.map none] 163 (0,0)):=by
  rw[hW]
  have:=heap_alloc_new (w.alloc (.cells #[.slice P f.params.length pc,.int .i64 f.arrays,.int .i64 f.cells,.slice A f.blocks.length c] 25)) (.cells #[.slice none 0 0,.int .i64 0,.int .i64 0,.slice none 0 0,.int .i64 0,.int .i64 0,.map none] 163)
  simpa using this
 have HX1:=hideI hx1
 have HX2:=hideI hx2
 have hwW:w.heap.size+1<W.heap.size:=lt_of_heap hx2
 have hBW:B≤W.heap.size:=Nat.le_trans hB HB0.out.size
 have hk:Keeps B w W:=Keeps.of_below (HB0.out.mono hB)
 have HSM:=hideI (look_small h0)
 have HFF:=hideI hf
 have hsz:=look_size h0
 obtain⟨sz,hszz⟩:∃ sz:Nat,sz=sizeM f:=⟨_,rfl⟩
 rw[← hszz]at hso hsz
 obtain⟨nx,hnx⟩:∃ nx,nx=roomM f:=⟨_,rfl⟩
 rw[← hnx]at hroom
 have HR:Hid (∀ W',Below W.heap.size W W'→Ints W' B (.slice P f.params.length pc) f.params∧BlocksR W' B (.slice A f.blocks.length c) f.blocks∧B≤W'.heap.size):=hideI fun W' hW' =>
  ⟨(HP.out.keeps hk).keeps (Keeps.of_below (hW'.mono hBW)),(HBL.out.keeps hk).keeps (Keeps.of_below (hW'.mono hBW)),Nat.le_trans hBW hW'.size⟩
 have HSI:Hid (Calls Tryz.prog 145 #[.agg #[.slice P f.params.length pc,.int .i64 f.arrays,.int .i64 f.cells,.slice A f.blocks.length c]] W fun e w'=>e=.returned (.tuple #[.int .i64 (sz:Int),.int .i64 0])∧Below W.heap.size W w'):=hideI (by
  have h:=size_any f B _ _ W (HR.out W (Below.refl _ _)).1 (HR.out W (Below.refl _ _)).2.1 (HR.out W (Below.refl _ _)).2.2 hid
  rw[hso,h0]at h
  exact h)
 have HFN:Hid (∀ W',Below W.heap.size W W'→Calls Tryz.prog 146 #[.agg #[.slice P f.params.length pc,.int .i64 f.arrays,.int .i64 f.cells,.slice A f.blocks.length c]] W' fun e w'=>e=.returned (.int .i64 nx)∧Below W'.heap.size W' w'):=hideI fun W' hW'=>by
  rw[hnx]
  exact roomFor_any f B _ _ W' (HR.out W' hW').1 (HR.out W' hW').2.1 (HR.out W' hW').2.2 hid hr
 have HFR:Hid (∀ W',Below W.heap.size W W'→Calls Tryz.prog 64 #[.agg #[.slice P f.params.length pc,.int .i64 f.arrays,.int .i64 f.cells,.slice A f.blocks.length c]] W' (FreshPost f W')):=hideI fun W' hW' =>
  fresh_any f B _ _ W' (HR.out W' hW').1 (HR.out W' hW').2.1 (HR.out W' hW').2.2 h0
 have hw1:IntKind.i64.wrap (4096 - (sz:Int))=4096 - (sz:Int):=IntWalk.i64_in _ (by omega)
 have hw2:IntKind.i64.wrap (1048576 - nx)=1048576 - nx:=IntWalk.i64_in _ (by omega)
 have HW0:=hideI hW
 have hqs:=row_cells hx1 rfl
 have q0:=hqs 0
 have q1:=hqs 1
 have q2:=hqs 2
 have q3:=hqs 3
 clear hqs hx1 hx2 hk hid hr h0 hf hW hszz hso hnx
 go_enter Tryz.func94,Tryz.ntmps94
 go_upto_region 1 with fail
 rw[← HW0.out]
 go_upto_region 3 with(first
  | (go_at_call 145;go_must (refine HSI.out.mono ?_);rintro e w1 ⟨rfl,hbk⟩;have HB1:=hideI hbk;have hx1:=(hbk.block _ (by omega:w.heap.size<W.heap.size)).trans HX1.out;have hqs:=row_cells hx1 rfl;clear q0 q1 q2 q3;have q0:=hqs 0;have q1:=hqs 1;have q2:=hqs 2;have q3:=hqs 3;clear hqs hx1;clear hbk)
  | (go_at_call 146;go_must (refine(HFN.out w1 HB1.out).mono ?_);rintro e w2 ⟨rfl,hb⟩;have hbk:=HB1.out.trans (hb.mono HB1.out.size);have HB2:=hideI hbk;have hx1:=(hbk.block _ (by omega:w.heap.size<W.heap.size)).trans HX1.out;have hqs:=row_cells hx1 rfl;clear q0 q1 q2 q3;have q0:=hqs 0;have q1:=hqs 1;have q2:=hqs 2;have q3:=hqs 3;clear hqs hx1;clear hbk hb))
 go_wp2_with fail
 refine(HFR.out w2 HB2.out).mono ?_
 rintro e w3 ⟨v1,rfl,ho,hb⟩
 have HB3:Hid (Below W.heap.size W w3):=hideI (HB2.out.trans (hb.mono HB2.out.size))
 have hrd:=OwnG.rd ho HSM.out
 obtain⟨P1,pc1,hv1,_⟩:=hrd.params
 obtain⟨A1,c1,hv2,_⟩:=hrd.blocks HFF.out
 rw[hv1,hv2]
 have HV1:=hideI hv1
 have HV2:=hideI hv2
 have HOW:=hideI ho
 have HB23:=hideI hb
 obtain⟨rm,hrm⟩:∃ rm,min (4096 - (sz:Int)) (1048576 - nx)=rm:=⟨_,rfl⟩
 obtain⟨w4,hw4⟩:∃ w4:World,w4=w3.alloc (.map #[] 0):=⟨_,rfl⟩
 have HB34:Hid (Below w3.heap.size w3 w4):=hideI (by rw[hw4];exact(Below.refl _ _).alloc (Nat.le_refl _) _)
 have hmv:MapV w4 w3.heap.size 0 (fun _=>none):=by rw[hw4];exact MapV.new w3
 have HMV:=hideI hmv
 have HB4:Hid (Below W.heap.size W w4):=hideI (HB3.out.trans (HB34.out.mono HB3.out.size))
 have hx2:=(HB4.out.block _ hwW).trans HX2.out
 rw[hw4]at hx2
 have hns:=row_cells hx2 rfl
 have n0:=hns 0
 have n1:=hns 1
 have n2:=hns 2
 have n3:=hns 3
 have n4:=hns 4
 have n5:=hns 5
 have n6:=hns 6
 have fr:=free_rowN hx2 rfl
 have f0:=fr 0
 have f1:=fr 1
 have f2:=fr 2
 have f3:=fr 3
 have f4:=fr 4
 have f5:=fr 5
 have f6:=fr 6
 have HW4:=hideI hw4
 clear hns fr hx2 ho hb hrd hv1 hv2 hmv hw4 q0 q1 q2 q3
 go_wp2
 have hs3:=HB3.out.size
 have hno:∀ t,EE f f.blocks.length t→(v1 t).ownBlock≠some (w.heap.size+1):=fun t ht e=>by
  have h1:=(HOW.out.lt ht e).1
  have h2:=HB2.out.size
  omega
 have hnM:∀ t,EE f f.blocks.length t→(v1 t).ownBlock≠some w3.heap.size:=fun t ht e=>by
  have h1:=(HOW.out.lt ht e).2
  omega
 have hO4:=HOW.out.below HB34.out
 rw[HW4.out]at hO4
 have hMV4:=HMV.out
 rw[HW4.out]at hMV4
 have hB4:=HB4.out
 rw[HW4.out]at hB4
 have hne:w.heap.size+1≠w3.heap.size:=by omega
 refine bodyPost_ret (v:=.agg #[.slice P1 f.params.length pc1,.int .i64 f.arrays,.int .i64 f.cells,.slice A1 f.blocks.length c1,.int .i64 nx,.int .i64 rm,.map (some w3.heap.size)]) (by simp[results,Tryz.results94,go_sem,n0,n1,n2,n3,n4,n5,n6]) rfl ⟨v1,w2.heap.size+2,P1,pc1,A1,c1,nx,rm,_,rfl,HV1.out,HV2.out,?_,?_,?_,hnM,?_,?_⟩
 ·exact(((((((OwnG.other hO4 hno).other hno).other hno).other hno).other hno).other hno).other hno)
 ·have h2:=HB2.out.size
  have h1:=HB0.out.size
  omega
 ·have h1:=HB0.out.size
  omega
 ·exact(((((((MapV.other hMV4 hne _).other hne _).other hne _).other hne _).other hne _).other hne _).other hne _)
 ·exact(((((((HB0.out.trans (hB4.mono HB0.out.size)).setCell (by simp) _).setCell (by simp) _).setCell (by simp) _).setCell (by simp) _).setCell (by simp) _).setCell (by simp) _).setCell (by simp) _
end Go.Proofs.YtaehbgppfahdeaaGreat

namespace Go.Proofs.YtaehbgppfahdeaaGreat
open Go.RowKit Go.Maps Go.Sort Go.Shelf
def keysV_ren:Go.Shelf.Ren:=⟨fun|7=>54|10=>90|n=>n,fun|23=>110|26=>3|3=>22|28=>108|0=>0|27=>107|33=>148|4=>4|n=>n,fun|n=>n⟩
theorem keysV:Go.Proofs.SlLaysZI.n7 Tryz.prog keysV_ren:={
 mixed:=by kernel_rfl,
 f7:=⟨Tryz.f54.name,by decide,Tryz.func54.trans (congrArg some (by kernel_rfl))⟩,
 f10:=⟨Tryz.f90.name,by decide,Tryz.func90.trans (congrArg some (by kernel_rfl))⟩,
 t0:=Tryz.underlying0,
 a0:=Tryz.isAgg0,
 z0:=Tryz.sizeOf0,
 v0:=Tryz.zeroValue0,
 t4:=Tryz.underlying4,
 a4:=Tryz.isAgg4,
 z4:=Tryz.sizeOf4,
 v4:=Tryz.zeroValue4,
 t23:=Tryz.underlying110,
 a23:=Tryz.isAgg110,
 z23:=Tryz.sizeOf110,
 v23:=Tryz.zeroValue110,
 t26:=Tryz.underlying3,
 a26:=Tryz.isAgg3,
 z26:=Tryz.sizeOf3,
 v26:=Tryz.zeroValue3,
 t27:=Tryz.underlying107,
 a27:=Tryz.isAgg107,
 z27:=Tryz.sizeOf107,
 v27:=Tryz.zeroValue107,
 t28:=Tryz.underlying108,
 a28:=Tryz.isAgg108,
 z28:=Tryz.sizeOf108,
 v28:=Tryz.zeroValue108,
 t33:=Tryz.underlying148,
 a33:=Tryz.isAgg148,
 z33:=Tryz.sizeOf148,
 v33:=Tryz.zeroValue148 }
theorem mapsKeysV (mb:Option Nat) (W:World):Calls Tryz.prog 54 #[.map mb] W fun e w'=>e=.returned (.func (.func 90) #[] #[.pointer (some ⟨W.heap.size,0,none⟩)])∧w'=W.alloc (.cells #[.map mb] 110) :=
 (callsIn_wide (n:=5)).1 (AnyZI.keys_in keysV Fence.wide 5 trivial rfl mb W)
theorem sortedKeysV' {H:Type} (b nn:Nat) (D0:DataW H) (R:Value→Option (DataW H×List MemPlace)) (w:World) (hown:w.ownsMap Tryz.prog 3 R b nn D0) (hmax:Maps.size D0≤maxLen) (hbytes:Maps.size D0*8≤140737488355328) :
  Calls Tryz.prog 53 #[.func (.func 90) #[] #[.pointer (some ⟨w.heap.size,0,none⟩)]] (w.alloc (.cells #[.map (some b)] 110)) fun e w'=>∃ (v:Value) (ss:List Int),e=.returned v∧ss.Perm (intKeys D0) ∧
   w'.ownsRow (w.alloc (.cells #[.map (some b)] 110)).heap.size 3 1 v ss.length ((ss.mergeSort (fun x y=>decide (x≤y))).map encZ)∧(v=.slice none 0 0↔ss=[])∧Below (w.alloc (.cells #[.map (some b)] 110)).heap.size (w.alloc (.cells #[.map (some b)] 110)) w':=by
 have hbl:=hown.lt
 have hseq:SeqGives Fence.wide 2 Tryz.prog 90 #[.pointer (some ⟨w.heap.size,0,none⟩)] encZ (fun ss=>ss.Perm (intKeys D0)) (Maps.size D0) (w.alloc (.cells #[.map (some b)] 110)) :=
  AnyZI.keys_gives (ρ:=keysV_ren) { keysV with } Fence.wide _ trivial rfl (by omega) w.heap.size b nn D0 _ (by simp) (by simp) (by
   obtain⟨es,clock,hb,Ft,hs,hD⟩:=hown
   exact⟨es,clock,(Below.heap_alloc _ _ b hbl).trans hb,Ft,hs,hD⟩)
 exact(callsIn_wide (n:=5)).1 (AnyZI.sorted_in sortedL Fence.wide 5 trivial trivial trivial trivial rfl (by omega) (sortsL _) (enters_of Tryz.func89 (by kernel_rfl) rfl) 90 #[.pointer (some ⟨w.heap.size,0,none⟩)] trivial (enters_of Tryz.func90 (by kernel_rfl) rfl) _ _ hmax hbytes _ hseq)
theorem sortedKeysV {H:Type} (b nn:Nat) (D0:DataW H) (R:Value→Option (DataW H×List MemPlace)) (w:World) (n:Nat) (hn:n=w.heap.size) (hown:w.ownsMap Tryz.prog 3 R b nn D0) (hmax:Maps.size D0≤maxLen) (hbytes:Maps.size D0*8≤140737488355328) :
  Calls Tryz.prog 53 #[.func (.func 90) #[] #[.pointer (some ⟨n,0,none⟩)]] (w.alloc (.cells #[.map (some b)] 110)) fun e w'=>∃ (v:Value) (ss:List Int),e=.returned v∧ss.Perm (intKeys D0) ∧
   w'.ownsRow (n+1) 3 1 v ss.length ((ss.mergeSort (fun x y=>decide (x≤y))).map encZ)∧Below (n+1) (w.alloc (.cells #[.map (some b)] 110)) w':=by
 subst hn
 refine(sortedKeysV' b nn D0 R w hown hmax hbytes).mono ?_
 rintro e w' ⟨v,ss,rfl,hS,hrow,_,hb⟩
 exact⟨v,ss,rfl,hS,by simpa using hrow,by simpa using hb⟩
theorem mem_intKeys {H:Type} {R:Value→Option (DataW H×List MemPlace)} {w:World} {b n:Nat} {D:DataW H} (hown:w.ownsMap Tryz.prog 3 R b n D) (x:Int):x∈intKeys D↔Go.Maps.has D (.int .i64 x)=true:=by
 obtain⟨es,hD,hpw,_⟩:=hown.entries lawInt
 obtain⟨es',hD',hko⟩:=hown.keysOf
 obtain rfl:es=es':=by rw[hD]at hD';simpa using hD'
 subst hD
 have hk:∀ p∈es,∃ x,p.1=.int .i64 x:=fun p hp=>by
  obtain⟨v,hv⟩:=hko p hp
  obtain⟨x,_,hx,_⟩:=Maps.keyOf_i64 Tryz.underlying3 hv
  exact⟨x,hx⟩
 rw[has_eq,List.any_eq_true]
 unfold intKeys
 rw[List.mem_map]
 constructor
 ·rintro⟨p,hp',rfl⟩
  obtain⟨a,ha⟩:=hk p hp'
  exact⟨p,hp',by rw[ha];simp[Lit.sameKey,Go.intOf]⟩
 ·rintro⟨p,hp',hs⟩
  obtain⟨a,ha⟩:=hk p hp'
  rw[ha]at hs
  exact⟨p,hp',by rw[ha];simpa [Lit.sameKey,Go.intOf] using hs⟩
theorem MapV.has {F:Int→Option Value} {D:DataW Value} (h:∀ id z,D.atKey (.int .i64 id) z=match F id with|some v=>.held v|none=>z) (id:Int):Go.Maps.has D (.int .i64 id)=(F id).isSome:=by
 cases hd:F id with
 | none => exact has_false_of_atKey (fun z => by rw [h,hd])
 | some t => exact has_true_of_atKey (y:=.held t) (fun z => by rw [h,hd])
end Go.Proofs.YtaehbgppfahdeaaGreat

namespace Go.Proofs.YtaehbgppfahdeaaGreat
open Go.RowKit Go.Maps
set_option maxRecDepth 100000 in
set_option maxHeartbeats 8000000 in
theorem eachAt3_any (f:FuncM) (val:Vals) (n c X0:Nat) (q:Nat) (A:Option Addr) (Inv:Nat→Nat→Nat→Nat→Nat→World→Prop) (w:World) (hv:val .blocks=.slice A n c) (hn:n=f.blocks.length) (hn5:n≤512) (hs:SmallF f) (hfr:∀ b∈f.blocks,∀ p∈b.phis,p.vals.length≤p.fr.length)
  (hS:Seer f val (fun p u w P=>Calls Tryz.prog 97 #[.pointer (some ⟨q,0,none⟩),p,u] w P) Inv) (hI:Inv 0 0 0 0 X0 w) :
  Calls Tryz.prog 91 #[.slice A n c,.func (.func 97) #[.pointer (some ⟨q,0,none⟩)] #[]] w fun e w'=>e=.returned (.tuple #[])∧∃ X,Inv n 0 0 0 X w':=by
 have HI:=hideI hI
 have HV:=hideI hv
 have HN:=hideI hn
 have HSM:=hideI hs
 have HFR:=hideI hfr
 have HS:=hideI hS
 clear hI hv hn hs hfr hS
 go_enter Tryz.func91,Tryz.ntmps91
 go_wp2
 go_loopg [14] n (fun gg s wr=>∃ k X:Nat,k≤n∧n - k≤gg∧s=.int .i64 k∧Hid (Inv k 0 0 0 X wr))
 case atStart => exact⟨0,X0,Nat.zero_le _,by omega,rfl,HI⟩
 case round =>
  clear HI
  obtain⟨k,X,hk,hgg,rfl,HI⟩:=hrel
  by_cases hlt:k<n
  ·obtain⟨b,hb⟩:∃ b,f.blocks[k]?=some b:=⟨_,List.getElem?_eq_getElem (by have:=HN.out;omega)⟩
   have HBL:=hideI hb
   obtain⟨A1,ca1,ea1,hbx⟩:=(HS.out.read _ _ _ _ _ _ HI.out).blocks
   obtain⟨g,off,ea2,c0,_,_⟩:=hbx k b hb
   rw[HV.out]at ea1
   injection ea1 with ea1 hq1 hq2
   clear hq1 hq2
   rw[ea2]at ea1
   subst ea1
   obtain⟨Ap,cp,hvp,_⟩:=(HS.out.read _ _ _ _ _ _ HI.out).phis k b hb
   rw[hvp]at c0
   obtain⟨mp,hmp⟩:∃ mp,mp=b.phis.length:=⟨_,rfl⟩
   have HMP:=hideI hmp
   have HVP:Hid (val (.phis k)=.slice Ap mp cp):=hideI (by rw[hmp];exact hvp)
   have c0':wr.cell? ⟨g,off+k*6,none⟩=some (.slice Ap mp cp):=by rw[hmp];exact c0
   have hmp5:mp≤100000:=by rw[hmp];exact(HSM.out.each b (List.mem_of_getElem? hb)).phis
   clear hbx c0 hvp hmp hb ea2
   go_wp2
   clear c0'
   go_loopg [25] mp (fun gg2 s wr2=>∃ j X:Nat,j≤mp∧mp - j≤gg2∧s=.int .i64 j∧Hid (Inv k j 0 0 X wr2))
   case atStart => exact⟨0,X,Nat.zero_le _,by omega,rfl,HI⟩
   case round =>
    clear HI
    clear X
    obtain⟨j,X,hj,hg2,rfl,HI⟩:=hrel
    by_cases hltj:j<mp
    ·obtain⟨p,hp⟩:∃ p,b.phis[j]?=some p:=⟨_,List.getElem?_eq_getElem (by have:=HMP.out;omega)⟩
     have HXP:=hideI hp
     obtain⟨Ap1,cp1,ep1,hpx⟩:=(HS.out.read _ _ _ _ _ _ HI.out).phis k b HBL.out
     obtain⟨gp,offp,ep2,c0,c1,c2,c3⟩:=hpx j p hp
     rw[HVP.out]at ep1
     injection ep1 with ep1 hq1 hq2
     clear hq1 hq2
     rw[ep2]at ep1
     subst ep1
     obtain⟨Af,cf,hvf,_⟩:=(HS.out.read _ _ _ _ _ _ HI.out).fr k b j p HBL.out hp
     obtain⟨Av,cv,hvv,_⟩:=(HS.out.read _ _ _ _ _ _ HI.out).vals k b j p HBL.out hp
     obtain⟨nf,hnf⟩:∃ nf,nf=p.fr.length:=⟨_,rfl⟩
     obtain⟨mv,hmv⟩:∃ mv,mv=p.vals.length:=⟨_,rfl⟩
     rw[← hnf]at hvf
     rw[← hmv]at hvv
     rw[hvf]at c2
     rw[hvv]at c3
     have HNF:=hideI hnf
     have HMV:=hideI hmv
     have HVF:=hideI hvf
     have HVV:=hideI hvv
     have hnv:mv≤nf:=by rw[hnf,hmv];exact HFR.out b (List.mem_of_getElem? HBL.out) p (List.mem_of_getElem? hp)
     have hnf5:nf≤100000:=by rw[hnf];exact((HSM.out.each b (List.mem_of_getElem? HBL.out)).fr p (List.mem_of_getElem? hp)).1
     have hmv5:mv≤100000:=by rw[hmv];exact((HSM.out.each b (List.mem_of_getElem? HBL.out)).fr p (List.mem_of_getElem? hp)).2
     obtain⟨wa,hwa⟩:∃ wa:World,wa=wr.alloc (.cells #[.int .i64 p.id,.int .i64 p.typ,.slice Af nf cf,.slice Av mv cv] 76):=⟨_,rfl⟩
     have hba:Below wr.heap.size wr wa:=by rw[hwa];exact(Below.refl _ wr).alloc (Nat.le_refl _) _
     have hxa:wa.heap[wr.heap.size]?=some (.cells #[.int .i64 p.id,.int .i64 p.typ,.slice Af nf cf,.slice Av mv cv] 76 (0,0)):=by rw[hwa];exact heap_alloc_new wr _
     have HIA:=hideI (HS.out.move _ _ _ _ _ wr.heap.size _ _ HI.out hba (.inr ⟨Nat.le_refl _,lt_of_heap hxa⟩))
     have HWA:=hideI hwa
     have hqa:=row_cells hxa rfl
     have a0:=hqa 0
     have a1:=hqa 1
     have a2:=hqa 2
     have a3:=hqa 3
     obtain⟨Y,hY⟩:∃ Y,Y=wr.heap.size:=⟨_,rfl⟩
     have HXA:Hid (wa.heap[Y]?=some (.cells #[.int .i64 p.id,.int .i64 p.typ,.slice Af nf cf,.slice Av mv cv] 76 (0,0))):=hideI (by rw[hY];exact hxa)
     rw[← hY]at HIA a0 a1 a2 a3
     have HY:=hideI hY
     clear hpx ep2 hnf hmv hvf hvv hwa hba hxa hqa hp HI
     go_upto_region 7 with fail
     rw[← HWA.out]
     rw[← HY.out]
     clear c0 c1 c2 c3 hY
     go_wp2
     clear a0 a1 a2 a3
     go_loopg [32] mv (fun gg3 s wr3=>∃ i:Nat,i≤mv∧mv - i≤gg3∧s=.int .i64 i∧Hid (Inv k j 0 i Y wr3)∧Hid (wr3.heap[Y]?=some (.cells #[.int .i64 p.id,.int .i64 p.typ,.slice Af nf cf,.slice Av mv cv] 76 (0,0))))
     case atStart => exact⟨0,Nat.zero_le _,by omega,rfl,HIA,HXA⟩
     case round =>
      clear HIA HXA
      obtain⟨i,hi,hg3,rfl,HI,HX⟩:=hrel
      by_cases hlti:i<mv
      ·obtain⟨x,hx⟩:∃ x,p.vals[i]?=some x:=⟨_,List.getElem?_eq_getElem (by have:=HMV.out;omega)⟩
       obtain⟨fr,hfr⟩:∃ fr,p.fr[i]?=some fr:=⟨_,List.getElem?_eq_getElem (by have:=HNF.out;omega)⟩
       obtain⟨Af1,cf1,ef1,hfx⟩:=(HS.out.read _ _ _ _ _ _ HI.out).fr k b j p HBL.out HXP.out
       obtain⟨gf,offf,ef2,d0⟩:=hfx i fr hfr
       rw[HVF.out]at ef1
       injection ef1 with ef1 hq1 hq2
       clear hq1 hq2
       rw[ef2]at ef1
       subst ef1
       obtain⟨Av1,cv1,ev1,hvx⟩:=(HS.out.read _ _ _ _ _ _ HI.out).vals k b j p HBL.out HXP.out
       obtain⟨gv,offv,ev2⟩:=hvx (by have:=HMV.out;omega)
       rw[HVV.out]at ev1
       injection ev1 with ev1 hq1 hq2
       clear hq1 hq2
       rw[ev2]at ev1
       subst ev1
       have hqa:=row_cells HX.out rfl
       have a2:=hqa 2
       have a3:=hqa 3
       have hinf:i<nf:=by omega
       have HC:=hideI (HS.out.phi k b j p i x fr Y wr.drew gv offv mv cv HBL.out HXP.out hx hfr HVV.out (HS.out.move _ _ _ _ _ Y _ _ HI.out (Below.drew (Below.refl _ _)) (.inl rfl)))
       have hS0:wr.cell? ⟨Y,2,none⟩=some (.slice (some ⟨gf,offf,none⟩) nf cf)∧wr.cell? ⟨Y,3,none⟩=some (.slice (some ⟨gv,offv,none⟩) mv cv)∧wr.cell? ⟨gf,offf+i,none⟩=some (.int .i64 fr):=⟨a2,a3,d0⟩
       clear hqa hfx ef2 hvx ev2 hx hfr
       go_upto_region 10 with fail
       refine wp_region_late (by kernel_rfl) (fun W'=>W'.cell? ⟨Y,2,none⟩=some (.slice (some ⟨gf,offf,none⟩) nf cf)∧W'.cell? ⟨Y,3,none⟩=some (.slice (some ⟨gv,offv,none⟩) mv cv)∧W'.cell? ⟨gf,offf+i,none⟩=some (.int .i64 fr)) [10] ?_
       refine wpAnyT_quiet (i:=0) (v:=?_) rfl (by kernel_rfl) (by kernel_rfl) (by kernel_rfl) (fun _ _ _ h=>h) (Or.inl ⟨by rfl,?_⟩) ?_
       rotate_left
       ·(intro w;go_simp;try with_reducible rfl)
       try simp only[Act.put,List.setIfInBounds_toArray,List.set_cons_zero,List.set_cons_succ]
       refine wpAnyT_quiet (i:=1) (v:=?_) rfl (by kernel_rfl) (by kernel_rfl) (by kernel_rfl) (fun _ _ _ h=>h) (Or.inl ⟨by rfl,?_⟩) ?_
       rotate_left
       ·(intro w;go_simp;try with_reducible rfl)
       try simp only[Act.put,List.setIfInBounds_toArray,List.set_cons_zero,List.set_cons_succ]
       refine wpAnyT_take [4,10] (i:=2) (v:=?_) rfl (by kernel_rfl) (by kernel_rfl) (by kernel_rfl) (by kernel_rfl) (by kernel_rfl) (by kernel_rfl) (fun _ _ _ h=>h) hS0 (Or.inl ⟨by rfl,?_⟩) ?_
       rotate_left
       ·(intro w hSw;go_split_ands;go_simp;try with_reducible rfl)
       try simp only[Act.put,List.setIfInBounds_toArray,List.set_cons_zero,List.set_cons_succ]
       refine wpAnyT_quiet (i:=3) (v:=?_) rfl (by kernel_rfl) (by kernel_rfl) (by kernel_rfl) (fun _ _ _ h=>h) (Or.inl ⟨by rfl,?_⟩) ?_
       rotate_left
       ·(intro w;go_simp;try with_reducible rfl)
       try simp only[Act.put,List.setIfInBounds_toArray,List.set_cons_zero,List.set_cons_succ]
       refine wpAnyT_quiet (i:=4) (v:=?_) rfl (by kernel_rfl) (by kernel_rfl) (by kernel_rfl) (fun _ _ _ h=>h) (Or.inl ⟨by rfl,?_⟩) ?_
       rotate_left
       ·(intro w;go_simp;try with_reducible rfl)
       try simp only[Act.put,List.setIfInBounds_toArray,List.set_cons_zero,List.set_cons_succ]
       refine wpAnyT_quiet (i:=5) (v:=?_) rfl (by kernel_rfl) (by kernel_rfl) (by kernel_rfl) (fun _ _ _ h=>h) (Or.inl ⟨by rfl,?_⟩) ?_
       rotate_left
       ·(intro w;go_simp;try with_reducible rfl)
       try simp only[Act.put,List.setIfInBounds_toArray,List.set_cons_zero,List.set_cons_succ]
       refine wpAnyT_take [8,9,10] (i:=6) (v:=?_) rfl (by kernel_rfl) (by kernel_rfl) (by kernel_rfl) (by kernel_rfl) (by kernel_rfl) (by kernel_rfl) (fun _ _ _ h=>h) hS0 (Or.inl ⟨by rfl,?_⟩) ?_
       rotate_left
       ·(intro w hSw;go_split_ands;go_simp;try with_reducible rfl)
       try simp only[Act.put,List.setIfInBounds_toArray,List.set_cons_zero,List.set_cons_succ]
       refine wpAnyT_quiet (i:=7) (v:=?_) rfl (by kernel_rfl) (by kernel_rfl) (by kernel_rfl) (fun _ _ _ h=>h) (Or.inl ⟨by rfl,?_⟩) ?_
       rotate_left
       ·(intro w;go_simp;try with_reducible rfl)
       try simp only[Act.put,List.setIfInBounds_toArray,List.set_cons_zero,List.set_cons_succ]
       refine wpAnyT_quiet (i:=8) (v:=?_) rfl (by kernel_rfl) (by kernel_rfl) (by kernel_rfl) (fun _ _ _ h=>h) (Or.inl ⟨by rfl,?_⟩) ?_
       rotate_left
       ·(intro w;go_simp;try with_reducible rfl)
       try simp only[Act.put,List.setIfInBounds_toArray,List.set_cons_zero,List.set_cons_succ]
       refine wpAnyT_take [10] (i:=9) (v:=?_) rfl (by kernel_rfl) (by kernel_rfl) (by kernel_rfl) (by kernel_rfl) (by kernel_rfl) (by kernel_rfl) (fun _ _ _ h=>h) hS0 (Or.inl ⟨by rfl,?_⟩) ?_
       rotate_left
       ·(intro w hSw;go_split_ands;go_simp;try with_reducible rfl)
       try simp only[Act.put,List.setIfInBounds_toArray,List.set_cons_zero,List.set_cons_succ]
       refine wpAnyT_ready (rs:=[10]) (by kernel_rfl) (by simp) ?_
       refine AllReadyT.cons rfl (fun K hK=>?_) ?_
       ·-- 10 call value
        go_simp
        refine HC.out.mono ?_
        rintro e w2 ⟨rfl,hi2,hx2⟩
        have HI2:=hideI hi2
        have HX2:=hideI ((hx2 (lt_of_heap HX.out)).trans HX.out)
        clear hi2 hx2
        refine hK.out _ _ (fun h=>absurd (by simp) h) ?_
        clear hK K
        try simp only[Act.put,List.setIfInBounds_toArray,List.set_cons_zero,List.set_cons_succ]
        refine wpAnyT_done (by kernel_rfl) ?_ _
        go_wp2_with fail
        go_roundg (mv - (i+1))
        case measure => omega
        case rel => exact⟨i+1,by omega,Nat.le_refl _,by go_num,HI2,HX2⟩
       ·exact AllReadyT.nil
      ·have him:i=mv:=by omega
       subst him
       have hI2:=HI.out
       rw[HMV.out]at hI2
       have HI2:=hideI (HS.out.phiE _ _ _ _ _ _ HBL.out HXP.out hI2)
       clear hI2
       go_wp2
       go_roundg (mp - (j+1))
       case measure => omega
       case rel => exact⟨j+1,Y,by omega,Nat.le_refl _,by go_num,HI2⟩
    ·have hjm:j=mp:=by omega
     subst hjm
     have hI2:=HI.out
     rw[HMP.out]at hI2
     have HIC:=hideI hI2
     obtain⟨A1,ca1,ea1,hbx⟩:=(HS.out.read _ _ _ _ _ _ HI.out).blocks
     obtain⟨g1,off1,ea2,_,c1,_⟩:=hbx k b HBL.out
     rw[HV.out]at ea1
     injection ea1 with ea1 hq1 hq2
     clear hq1 hq2
     rw[ea2]at ea1
     injection ea1 with ea1
     injection ea1 with ea1 ea3
     subst ea1 ea3
     obtain⟨Ac,cc,hvc,_⟩:=(HS.out.read _ _ _ _ _ _ HI.out).code k b HBL.out
     obtain⟨mc,hmc⟩:∃ mc,mc=b.code.length:=⟨_,rfl⟩
     rw[← hmc]at hvc
     rw[hvc]at c1
     have HMC:=hideI hmc
     have HVC:=hideI hvc
     have hmc5:mc≤100000:=by rw[hmc];exact(HSM.out.each b (List.mem_of_getElem? HBL.out)).code
     clear hbx ea2 hvc hmc hI2 hltj
     go_wp2
     clear c1
     go_loopg [53] mc (fun gg2 s wr2=>∃ a X:Nat,a≤mc∧mc - a≤gg2∧s=.int .i64 a∧Hid (Inv k b.phis.length a 0 X wr2))
     case atStart => exact⟨0,X,Nat.zero_le _,by omega,rfl,HIC⟩
     case round =>
      clear HI HIC
      clear X
      obtain⟨a,X,ha,hg2,rfl,HI⟩:=hrel
      by_cases hlta:a<mc
      ·obtain⟨p,hp⟩:∃ p,b.code[a]?=some p:=⟨_,List.getElem?_eq_getElem (by have:=HMC.out;omega)⟩
       have HXP:=hideI hp
       obtain⟨Ap1,cp1,ep1,hpx⟩:=(HS.out.read _ _ _ _ _ _ HI.out).code k b HBL.out
       obtain⟨gp,offp,ep2,c0,c1,c2,c3⟩:=hpx a p hp
       rw[HVC.out]at ep1
       injection ep1 with ep1 hq1 hq2
       clear hq1 hq2
       rw[ep2]at ep1
       subst ep1
       obtain⟨Av,cv,hvv,_⟩:=(HS.out.read _ _ _ _ _ _ HI.out).args k b a p HBL.out hp
       obtain⟨mv,hmv⟩:∃ mv,mv=p.args.length:=⟨_,rfl⟩
       rw[← hmv]at hvv
       rw[hvv]at c2
       have HMV:=hideI hmv
       have HVV:=hideI hvv
       have hmv5:mv≤100000:=by rw[hmv];exact(HSM.out.each b (List.mem_of_getElem? HBL.out)).args p (List.mem_of_getElem? hp)
       obtain⟨wa,hwa⟩:∃ wa:World,wa=wr.alloc (.cells #[.int .i64 p.op,.int .i64 p.id,.slice Av mv cv,.int .i64 p.n] 68):=⟨_,rfl⟩
       have hba:Below wr.heap.size wr wa:=by rw[hwa];exact(Below.refl _ wr).alloc (Nat.le_refl _) _
       have hxa:wa.heap[wr.heap.size]?=some (.cells #[.int .i64 p.op,.int .i64 p.id,.slice Av mv cv,.int .i64 p.n] 68 (0,0)):=by rw[hwa];exact heap_alloc_new wr _
       have HIA:=hideI (HS.out.move _ _ _ _ _ wr.heap.size _ _ HI.out hba (.inr ⟨Nat.le_refl _,lt_of_heap hxa⟩))
       have HWA:=hideI hwa
       have hqa:=row_cells hxa rfl
       have a2:=hqa 2
       obtain⟨Y,hY⟩:∃ Y,Y=wr.heap.size:=⟨_,rfl⟩
       have HXA:Hid (wa.heap[Y]?=some (.cells #[.int .i64 p.op,.int .i64 p.id,.slice Av mv cv,.int .i64 p.n] 68 (0,0))):=hideI (by rw[hY];exact hxa)
       rw[← hY]at HIA a2
       have HY:=hideI hY
       clear hpx ep2 hmv hvv hwa hba hxa hqa hp HI
       go_upto_region 16 with fail
       rw[← HWA.out]
       rw[← HY.out]
       clear c0 c1 c2 c3 hY
       go_wp2
       clear a2
       go_loopg [60] mv (fun gg3 s wr3=>∃ i:Nat,i≤mv∧mv - i≤gg3∧s=.int .i64 i∧Hid (Inv k b.phis.length a i Y wr3)∧Hid (wr3.heap[Y]?=some (.cells #[.int .i64 p.op,.int .i64 p.id,.slice Av mv cv,.int .i64 p.n] 68 (0,0))))
       case atStart => exact⟨0,Nat.zero_le _,by omega,rfl,HIA,HXA⟩
       case round =>
        clear HIA HXA
        obtain⟨i,hi,hg3,rfl,HI,HX⟩:=hrel
        by_cases hlti:i<mv
        ·obtain⟨x,hx⟩:∃ x,p.args[i]?=some x:=⟨_,List.getElem?_eq_getElem (by have:=HMV.out;omega)⟩
         obtain⟨Av1,cv1,ev1,hvx⟩:=(HS.out.read _ _ _ _ _ _ HI.out).args k b a p HBL.out HXP.out
         obtain⟨gv,offv,ev2⟩:=hvx (by have:=HMV.out;omega)
         rw[HVV.out]at ev1
         injection ev1 with ev1 hq1 hq2
         clear hq1 hq2
         rw[ev2]at ev1
         subst ev1
         have hqa:=row_cells HX.out rfl
         have a2:=hqa 2
         have HC:=hideI (HS.out.ins k b a p i x Y wr gv offv mv cv HBL.out HXP.out hx HVV.out HI.out)
         clear hqa hvx ev2 hx
         go_wp2_with (go_at_call 97;refine HC.out.mono ?_;rintro e w2 ⟨rfl,hi2,hx2⟩;have HI2:=hideI hi2;have HX2:=hideI ((hx2 (lt_of_heap HX.out)).trans HX.out);clear hi2 hx2)
         go_roundg (mv - (i+1))
         case measure => omega
         case rel => exact⟨i+1,by omega,Nat.le_refl _,by go_num,HI2,HX2⟩
        ·have him:i=mv:=by omega
         subst him
         have hI2:=HI.out
         rw[HMV.out]at hI2
         have HI2:=hideI (HS.out.insE _ _ _ _ _ _ HBL.out HXP.out hI2)
         clear hI2
         go_wp2
         go_roundg (mc - (a+1))
         case measure => omega
         case rel => exact⟨a+1,Y,by omega,Nat.le_refl _,by go_num,HI2⟩
      ·have ham:a=mc:=by omega
       subst ham
       have hI2:=HI.out
       rw[HMC.out]at hI2
       have HIE:=hideI hI2
       obtain⟨A1,ca1,ea1,hbx⟩:=(HS.out.read _ _ _ _ _ _ HI.out).blocks
       obtain⟨g1,off1,ea2,_,_,c2⟩:=hbx k b HBL.out
       rw[HV.out]at ea1
       injection ea1 with ea1 hq1 hq2
       clear hq1 hq2
       rw[ea2]at ea1
       injection ea1 with ea1
       injection ea1 with ea1 ea3
       subst ea1 ea3
       clear hbx ea2 hI2 hlta HI
       by_cases h2:b.term.op=2
       ·have HC:=hideI (HS.out.use k b X wr g off n c HBL.out (.inl h2) HV.out HIE.out)
        rw[h2]at c2
        clear h2
        go_wp2_with (go_at_call 97;refine HC.out.mono ?_;rintro e w2 ⟨rfl,hi2⟩;have HI2:=hideI hi2;clear hi2)
        go_roundg (n - (k+1))
        case measure => omega
        case rel => exact⟨k+1,X,by omega,Nat.le_refl _,by go_num,HI2⟩
       ·by_cases h3:b.term.op=3
        ·have HC:=hideI (HS.out.use k b X wr g off n c HBL.out (.inr h3) HV.out HIE.out)
         rw[h3]at c2
         clear h2 h3
         go_wp2_with (go_at_call 97;refine HC.out.mono ?_;rintro e w2 ⟨rfl,hi2⟩;have HI2:=hideI hi2;clear hi2)
         go_roundg (n - (k+1))
         case measure => omega
         case rel => exact⟨k+1,X,by omega,Nat.le_refl _,by go_num,HI2⟩
        ·have hb2:(b.term.op==2)=false:=beq_eq_false_iff_ne.2 h2
         have hb3:(b.term.op==3)=false:=beq_eq_false_iff_ne.2 h3
         have HI2:=hideI (HS.out.rest k b X wr HBL.out (fun e=>e.elim h2 h3) HIE.out)
         clear h2 h3
         go_wp2
         go_roundg (n - (k+1))
         case measure => omega
         case rel => exact⟨k+1,X,by omega,Nat.le_refl _,by go_num,HI2⟩
  ·have hkn:k=n:=by omega
   subst hkn
   go_wp2
   go_end0
   exact⟨rfl,X,HI.out⟩
end Go.Proofs.YtaehbgppfahdeaaGreat

namespace Go.Proofs.YtaehbgppfahdeaaGreat
open Go.RowKit Go.Maps
theorem MapV.has0 {F:Int→Option Value} {D:DataW Value} (h:∀ id z,D.atKey (.int .i64 id) z=match F id with|some v=>.held v|none=>z) (id:Int):Go.Maps.has D (.int .i64 id)=(F id).isSome:=by
 cases hd:F id with
 | none => exact has_false_of_atKey (fun z => by rw [h,hd])
 | some t => exact has_true_of_atKey (y:=.held t) (fun z => by rw [h,hd])
theorem MapV.look_ok {w:World} {M n:Nat} {F:Int→Option Value} (h:MapV w M n F) {id:Int} (hi:I64 id):(Instr.lookup 110 (.map (some M)) (.int .i64 id) true).run Tryz.prog w=.ok (.tuple #[(F id).getD (.slice none 0 0),.bool (F id).isSome]) w:=by
 obtain⟨D,hown,_,hat⟩:=h
 obtain⟨v,ps,hrun,hv⟩:=hown.look_ok (t:=110) (e:=22) lawInt Tryz.underlying110 (zeroInts w) (zd:=.held (.slice none 0 0)) (zp:=[]) rfl (keyOf_int_mk Tryz.underlying3 hi)
 rw[hat]at hv
 have hv':some ((.held v:DataW Value),([]:List MemPlace))=some (match F id with|some v=>.held v|none=>.held (.slice none 0 0),ps):=hv
 have h1:=congrArg Prod.fst (Option.some.inj hv')
 rw[hrun,MapV.has0 hat]
 cases hF:F id with
 | none => rw [hF] at h1;simp only [DataW.held.injEq] at h1;rw [h1];rfl
 | some u => rw [hF] at h1;simp only [DataW.held.injEq] at h1;rw [h1];rfl
set_option maxRecDepth 100000 in
set_option maxHeartbeats 2000000 in
theorem turn0_any (q g j M:Nat) (x:Int) (u:Value) (w:World) (hq:w.cell? ⟨q,6,none⟩=some (.map (some M))) (hx:w.cell? ⟨g,j,none⟩=some (.int .i64 x)) (hi:I64 x) (hm:MapV w M 0 (fun _=>none)) :
  Calls Tryz.prog 97 #[.pointer (some ⟨q,0,none⟩),.pointer (some ⟨g,j,none⟩),u] w fun e w'=>e=.returned (.tuple #[])∧Below w.heap.size w w':=by
 have hS0:w.cell? ⟨q,6,none⟩=some (.map (some M))∧w.cell? ⟨g,j,none⟩=some (.int .i64 x)∧∀ W:World,W.heap[M]?=w.heap[M]?→(Instr.lookup 110 (.map (some M)) (.int .i64 x) true).run Tryz.prog W=.ok (.tuple #[.slice none 0 0,.bool false]) W:=⟨hq,hx,fun W hW=>(hm.same (w':=W) hW).look_ok hi⟩
 clear hq hx hm hi
 go_enter Tryz.func97,Tryz.ntmps97
 go_upto_region 0 with fail
 refine wp_region_late (by kernel_rfl) (fun W'=>W'.cell? ⟨q,6,none⟩=some (.map (some M))∧W'.cell? ⟨g,j,none⟩=some (.int .i64 x)∧∀ W:World,W.heap[M]?=W'.heap[M]?→(Instr.lookup 110 (.map (some M)) (.int .i64 x) true).run Tryz.prog W=.ok (.tuple #[.slice none 0 0,.bool false]) W) [] ?_
 refine wpAnyT_quiet (i:=0) (v:=?_) rfl (by kernel_rfl) (by kernel_rfl) (by kernel_rfl) (fun _ _ _ h=>h) (Or.inl ⟨by rfl,?_⟩) ?_
 rotate_left
 ·(intro w;go_simp;try with_reducible rfl)
 try simp only[Act.put,List.setIfInBounds_toArray,List.set_cons_zero,List.set_cons_succ]
 refine wpAnyT_quiet (i:=1) (v:=?_) rfl (by kernel_rfl) (by kernel_rfl) (by kernel_rfl) (fun _ _ _ h=>h) (Or.inl ⟨by rfl,?_⟩) ?_
 rotate_left
 ·(intro w;go_simp;try with_reducible rfl)
 try simp only[Act.put,List.setIfInBounds_toArray,List.set_cons_zero,List.set_cons_succ]
 refine wpAnyT_quiet (i:=2) (v:=?_) rfl (by kernel_rfl) (by kernel_rfl) (by kernel_rfl) (fun _ _ _ h=>h) (Or.inl ⟨by rfl,?_⟩) ?_
 rotate_left
 ·(intro w;go_simp;try with_reducible rfl)
 try simp only[Act.put,List.setIfInBounds_toArray,List.set_cons_zero,List.set_cons_succ]
 refine wpAnyT_take [] (i:=3) (v:=?_) rfl (by kernel_rfl) (by kernel_rfl) (by kernel_rfl) (by kernel_rfl) (by kernel_rfl) (by kernel_rfl) (fun _ _ _ h=>h) hS0 (Or.inl ⟨by rfl,?_⟩) ?_
 rotate_left
 ·(intro w hSw;go_split_ands;go_simp;try with_reducible rfl)
 try simp only[Act.put,List.setIfInBounds_toArray,List.set_cons_zero,List.set_cons_succ]
 refine wpAnyT_quiet (i:=4) (v:=?_) rfl (by kernel_rfl) (by kernel_rfl) (by kernel_rfl) (fun _ _ _ h=>h) (Or.inl ⟨by rfl,?_⟩) ?_
 rotate_left
 ·(intro w;go_simp;try with_reducible rfl)
 try simp only[Act.put,List.setIfInBounds_toArray,List.set_cons_zero,List.set_cons_succ]
 refine wpAnyT_quiet (i:=5) (v:=?_) rfl (by kernel_rfl) (by kernel_rfl) (by kernel_rfl) (fun _ _ _ h=>h) (Or.inl ⟨by rfl,?_⟩) ?_
 rotate_left
 ·(intro w;go_simp;try with_reducible rfl)
 try simp only[Act.put,List.setIfInBounds_toArray,List.set_cons_zero,List.set_cons_succ]
 refine wpAnyT_take [] (i:=6) (v:=?_) rfl (by kernel_rfl) (by kernel_rfl) (by kernel_rfl) (by kernel_rfl) (by kernel_rfl) (by kernel_rfl) (fun _ _ _ h=>h) hS0 (Or.inl ⟨by rfl,?_⟩) ?_
 rotate_left
 ·(intro w hSw;go_split_ands;go_simp;try with_reducible rfl)
 try simp only[Act.put,List.setIfInBounds_toArray,List.set_cons_zero,List.set_cons_succ]
 refine wpAnyT_take [] (i:=7) (v:=?_) rfl (by kernel_rfl) (by kernel_rfl) (by kernel_rfl) (by kernel_rfl) (by kernel_rfl) (by kernel_rfl) (fun _ _ _ h=>h) hS0 (Or.inl ⟨by rfl,?_⟩) ?_
 rotate_left
 ·(intro w hSw;have hlk:=hSw.2.2 w rfl;clear hSw;go_simp;try with_reducible rfl)
 try simp only[Act.put,List.setIfInBounds_toArray,List.set_cons_zero,List.set_cons_succ]
 refine wpAnyT_quiet (i:=8) (v:=?_) rfl (by kernel_rfl) (by kernel_rfl) (by kernel_rfl) (fun _ _ _ h=>h) (Or.inl ⟨by rfl,?_⟩) ?_
 rotate_left
 ·(intro w;go_simp;try with_reducible rfl)
 try simp only[Act.put,List.setIfInBounds_toArray,List.set_cons_zero,List.set_cons_succ]
 refine wpAnyT_quiet (i:=9) (v:=?_) rfl (by kernel_rfl) (by kernel_rfl) (by kernel_rfl) (fun _ _ _ h=>h) (Or.inl ⟨by rfl,?_⟩) ?_
 rotate_left
 ·(intro w;go_simp;try with_reducible rfl)
 try simp only[Act.put,List.setIfInBounds_toArray,List.set_cons_zero,List.set_cons_succ]
 refine wpAnyT_quiet (i:=10) (v:=?_) rfl (by kernel_rfl) (by kernel_rfl) (by kernel_rfl) (fun _ _ _ h=>h) (Or.inl ⟨by rfl,?_⟩) ?_
 rotate_left
 ·(intro w;go_simp;try with_reducible rfl)
 try simp only[Act.put,List.setIfInBounds_toArray,List.set_cons_zero,List.set_cons_succ]
 refine wpAnyT_quiet (i:=11) (v:=?_) rfl (by kernel_rfl) (by kernel_rfl) (by kernel_rfl) (fun _ _ _ h=>h) (Or.inl ⟨by rfl,?_⟩) ?_
 rotate_left
 ·(intro w;go_simp;try with_reducible rfl)
 try simp only[Act.put,List.setIfInBounds_toArray,List.set_cons_zero,List.set_cons_succ]
 refine wpAnyT_quiet (i:=12) (v:=?_) rfl (by kernel_rfl) (by kernel_rfl) (by kernel_rfl) (fun _ _ _ h=>h) (Or.inl ⟨by rfl,?_⟩) ?_
 rotate_left
 ·(intro w;go_simp;try with_reducible rfl)
 try simp only[Act.put,List.setIfInBounds_toArray,List.set_cons_zero,List.set_cons_succ]
 refine wpAnyT_done (by kernel_rfl) ?_ _
 go_wp2
 go_end0
 exact⟨rfl,⟨rfl,rfl,rfl,Nat.le_refl _,fun _ _=>rfl⟩⟩
theorem turn_seer (f:FuncM) (val:Vals) (q M:Nat) (w:World) (hrd:RdF w w.heap.size f val) (hq:w.cell? ⟨q,6,none⟩=some (.map (some M))) (hql:q<w.heap.size) (hm:MapV w M 0 (fun _=>none)) (h0:(lookM f).1=0) (hid:∀ u∈usesM f,I64 u.1) :
  Seer f val (fun p u v P=>Calls Tryz.prog 97 #[.pointer (some ⟨q,0,none⟩),p,u] v P) (fun _ _ _ _ _ w'=>Below w.heap.size w w'):=by
 have huk:=uses_known h0 hid
 have one:∀ (w1:World) (X g j:Nat) (x:Int) (u:Value),Below w.heap.size w w1→I64 x→w.cell? ⟨g,j,none⟩=some (.int .i64 x)→g<w.heap.size→Calls Tryz.prog 97 #[.pointer (some ⟨q,0,none⟩),.pointer (some ⟨g,j,none⟩),u] w1 fun e w'=>e=.returned (.tuple #[])∧Below w.heap.size w w'∧(X<w1.heap.size→w'.heap[X]?=w1.heap[X]?):=by
  intro w1 X g j x u hb hi hx hg
  refine(turn0_any q g j M x u w1 ((hb.cell (p:=⟨q,6,none⟩) hql).trans hq) ((hb.cell (p:=⟨g,j,none⟩) hg).trans hx) hi (hm.same (hb.block M hm.lt))).mono ?_
  rintro e w2 ⟨rfl,hb2⟩
  exact⟨rfl,hb.trans (hb2.mono hb.size),fun hX=>hb2.block X hX⟩
 have hrow:∀ t xs i x g off n c,rowOf f val t=some (intsRow xs)→xs[i]?=some x→val t=.slice (some ⟨g,off,none⟩) n c→w.cell? ⟨g,off+i,none⟩=some (.int .i64 x)∧g<w.heap.size:=by
  intro t xs i x g off n c hd hx hv
  obtain⟨A,c',e,_,hxx⟩:=hrd t _ hd
  obtain⟨b,o,e2,hb,hc⟩:=hxx i (.int .i64 x) (by show(xs.map _)[i]?=_;rw[List.getElem?_map,hx];rfl)
  rw[hv,e2]at e
  injection e with e
  injection e with e
  injection e with e e'
  subst e e'
  exact⟨hc,hb⟩
 refine⟨fun _ _ _ _ _ w1 hb=>UseRd.of_rd (B:=w.heap.size) (hrd.keeps (Keeps.of_below hb)),fun _ _ _ _ _ _ w1 w2 hb hb2 _=>hb.trans (hb2.mono hb.size),?_,fun _ _ _ _ _ _ _ _ h=>h,?_,fun _ _ _ _ _ _ _ _ h=>h,?_,fun _ _ _ _ _ _ h=>h⟩
 ·intro k b a p i x fr X w1 g off n c hb hp hx hf hv hi
  obtain⟨_,_,_,_,hkn⟩:=huk.phi k b p i x hb (List.mem_of_getElem? hp) hx
  obtain⟨hc,hg⟩:=hrow (.vals k a) p.vals i x g off n c (by simp only[rowOf,hb,Option.bind_some,hp,Option.map_some]) hx hv
  exact one w1 X g (off+i) x _ hi hkn.1 hc hg
 ·intro k b a p i x X w1 g off n c hb hp hx hv hi
  have hkn:=huk.arg k b p x hb (List.mem_of_getElem? hp) (List.mem_of_getElem? hx)
  obtain⟨hc,hg⟩:=hrow (.args k a) p.args i x g off n c (by simp only[rowOf,hb,Option.bind_some,hp,Option.map_some]) hx hv
  exact one w1 X g (off+i) x _ hi hkn.1 hc hg
 ·intro k b X w1 g off n c hb hop hv hi
  have hkn:=huk.term k b hb hop
  obtain⟨A,c',e,_,hxx⟩:=hrd .blocks _ rfl
  obtain⟨g',o',e2,hb2,hc⟩:=hxx (k*6+3) (.int .i64 b.term.val) (by
   show(cellsOf _ 0 f.blocks)[k*6+3]?=_
   rw[cellsOf_at (s:=6) (blockCells_len val) f.blocks 0 k 3 b hb (by omega)]
   rfl)
  rw[hv,e2]at e
  injection e with e
  injection e with e
  injection e with e e'
  subst e e'
  refine(one w1 X g (off+(k*6+3)) b.term.val _ hi hkn.1 hc hb2).mono ?_
  rintro e w2 ⟨rfl,h,_⟩
  exact⟨rfl,h⟩
end Go.Proofs.YtaehbgppfahdeaaGreat

namespace Go.Proofs.YtaehbgppfahdeaaGreat
open Go.RowKit Go.Maps Go.Sort
def CopyPost (f:FuncM) (w:World) (e:Ending) (w':World):Prop :=
 ∃ (v1:Vals) (base:Nat) (P:Option Addr) (pc:Nat) (A:Option Addr) (c:Nat),e=.returned (.tuple #[.agg #[.slice P f.params.length pc,.int .i64 f.arrays,.int .i64 f.cells,.slice A f.blocks.length c],.int .i64 0])∧v1 .params=.slice P f.params.length pc∧v1 .blocks=.slice A f.blocks.length c∧OwnG w' base (rowOf f v1) v1 (EE f f.blocks.length)∧w.heap.size≤base∧Below w.heap.size w w'
set_option maxRecDepth 100000 in
set_option maxHeartbeats 4000000 in
theorem closed0_any (f:FuncM) (ls:List LpM) (B gl cl Md m0 base0 pc c:Nat) (P A Al:Option Addr) (v6 v7 v8:Value) (w:World)
  (hpv:Ints w B (.slice P f.params.length pc) f.params) (hbv:BlocksR w B (.slice A f.blocks.length c) f.blocks) (hB:B≤w.heap.size) (hls:LoopsR w base0 (.slice Al ls.length cl) ls) (hle:w.ownsRow base0 3 1 (.slice (some ⟨gl,0,none⟩) f.blocks.length f.blocks.length) f.blocks.length (leastR f.blocks.length ls ls.length [] 0)) (hri:Rising ls) (hpl:PlacesAt w Md (defsM f))
  (h0:(lookM f).1=0) (hid:∀ u∈usesM f,I64 u.1) (hlen:ls.length≤512) (hm0:Hid (m0=ls.length)) (hr:∀ x∈idsOut f,0≤x∧x≤1048575) (hf:FnFits f) (hroom:0≤roomM f∧roomM f≤1048576) (hso:sizeOut f=(sizeM f:Int)) (hno:∀ id,¬ OpenK f ls (blksU f.blocks f.blocks.length) id) :
  Calls Tryz.prog 57 #[.agg #[.slice P f.params.length pc,.int .i64 f.arrays,.int .i64 f.cells,.slice A f.blocks.length c,.slice Al m0 cl,.slice (some ⟨gl,0,none⟩) f.blocks.length f.blocks.length,v6,v7,v8,.map (some Md)]] w (CopyPost f w):=by
 obtain⟨W,hW⟩:∃ W:World,W=(w.alloc (.cells #[.slice P f.params.length pc,.int .i64 f.arrays,.int .i64 f.cells,.slice A f.blocks.length c,.slice Al m0 cl,.slice (some ⟨gl,0,none⟩) f.blocks.length f.blocks.length,v6,v7,v8,.map (some Md)] 103)).alloc (.cells #[.slice none 0 0,.int .i64 0,.int .i64 0,.slice none 0 0] 25):=⟨_,rfl⟩
 have HB0:Hid (Below w.heap.size w W):=by show Below _ _ _;rw[hW];exact((Below.refl _ w).alloc (Nat.le_refl _) _).alloc (by simp) _
 have hx1:W.heap[w.heap.size]?=some (.cells #[.slice P f.params.length pc,.int .i64 f.arrays,.int .i64 f.cells,.slice A f.blocks.length c,.slice Al m0 cl,.slice (some ⟨gl,0,none⟩) f.blocks.length f.blocks.length,v6,v7,v8,.map (some Md)] 103 (0,0)):=by
  rw[hW,Below.heap_alloc _ _ _ (by simp)]
  exact heap_alloc_new w _
 have hx2:W.heap[w.heap.size+1]?=some (.cells #[.slice none 0 0,.int .i64 0,.int .i64 0,.slice none 0 0] 25 (0,0)):=by
  rw[hW]
  have:=heap_alloc_new (w.alloc (.cells #[.slice P f.params.length pc,.int .i64 f.arrays,.int .i64 f.cells,.slice A f.blocks.length c,.slice Al m0 cl,.slice (some ⟨gl,0,none⟩) f.blocks.length f.blocks.length,v6,v7,v8,.map (some Md)] 103)) (.cells #[.slice none 0 0,.int .i64 0,.int .i64 0,.slice none 0 0] 25)
  simpa using this
 have HX1:=hideI hx1
 have HX2:=hideI hx2
 have hwW:w.heap.size+1<W.heap.size:=lt_of_heap hx2
 have hBW:B≤W.heap.size:=Nat.le_trans hB HB0.out.size
 have hk:Keeps B w W:=Keeps.of_below (HB0.out.mono hB)
 have HCH:=hideI (clChanged_any f B _ _ W (hpv.keeps hk) (hbv.keeps hk) hBW hid hr h0 hf hroom hso)
 have HOP:Hid (∀ w2,Below W.heap.size W w2→Calls Tryz.prog 55 #[.agg #[.slice P f.params.length pc,.int .i64 f.arrays,.int .i64 f.cells,.slice A f.blocks.length c,.slice Al m0 cl,.slice (some ⟨gl,0,none⟩) f.blocks.length f.blocks.length,v6,v7,v8,.map (some Md)]] w2 (OpenPost f ls w2)):=hideI fun w2 hb=>by
  have hb2:Below w.heap.size w w2:=HB0.out.trans (hb.mono HB0.out.size)
  have hk2:Keeps B w w2:=Keeps.of_below (hb2.mono hB)
  exact clOpen_any f ls B gl cl Md m0 base0 Al _ _ _ _ v6 v7 v8 w2 (hpv.keeps hk2) (hbv.keeps hk2) (Nat.le_trans hB hb2.size) (hls.kept hb2) (own_kept_below hle hb2 (fun k hk=>(hle.lt k hk).2)) hri (hpl.below hb2 hpl.lt) h0 hid hlen hm0
 have HNO:=hideI hno
 have H0:=hideI h0
 have HID:=hideI hid
 have HSM:=hideI (look_small h0)
 have HN5:=hideI (look_some_block h0).2
 have HFR2:Hid (∀ b∈f.blocks,∀ p∈b.phis,p.vals.length≤p.fr.length):=hideI fun b hb p hp=>by
  have h:=((formed_all (look_formed h0)).1 b hb).1 p hp
  unfold phiB at h
  simp only[Bool.and_eq_true,beq_iff_eq]at h
  exact Nat.le_of_eq h.2.1
 have HW0:=hideI hW
 have hqs:=row_cells hx1 rfl
 have q0:=hqs 0
 have q1:=hqs 1
 have q2:=hqs 2
 have q3:=hqs 3
 have q4:=hqs 4
 have q5:=hqs 5
 have q6:=hqs 6
 have q7:=hqs 7
 have q8:=hqs 8
 have q9:=hqs 9
 clear hqs hx1 hx2 hk hid hr h0 hf hW hpv hbv hls hle hri hpl hlen hm0 hroom hso hno
 go_enter Tryz.func57,Tryz.ntmps57
 go_upto_region 1 with fail
 rw[← HW0.out]
 go_upto_region 2 with(go_at_call 94;go_must (refine HCH.out.mono ?_);rintro e w1 ⟨v1,base,P1,pc1,A1,c1,nx,rm,M1,rfl,e1,e2,ho,hbs,hM1,hnM,hmv,hb⟩;have HE1:=hideI e1;have HE2:=hideI e2;have HO1:=hideI ho;have HBS:=hideI hbs;have HMV1:=hideI hmv;have HB1:=hideI hb;clear e1 e2 ho hbs hM1 hnM hmv hb q0 q1 q2 q3 q4 q5 q6 q7 q8 q9)
 obtain⟨w2,hw2⟩:∃ w2:World,w2=w1.alloc (.cells #[.slice P1 f.params.length pc1,.int .i64 f.arrays,.int .i64 f.cells,.slice A1 f.blocks.length c1,.int .i64 nx,.int .i64 rm,.map (some M1)] 163):=⟨_,rfl⟩
 rw[← hw2]
 have hX4:w2.heap[w1.heap.size]?=some (.cells #[.slice P1 f.params.length pc1,.int .i64 f.arrays,.int .i64 f.cells,.slice A1 f.blocks.length c1,.int .i64 nx,.int .i64 rm,.map (some M1)] 163 (0,0)):=by rw[hw2];exact heap_alloc_new w1 _
 have hb12:Below w1.heap.size w1 w2:=by rw[hw2];exact(Below.refl _ w1).alloc (Nat.le_refl _) _
 obtain⟨Y,hY⟩:∃ Y,Y=w1.heap.size:=⟨_,rfl⟩
 rw[← hY]at hX4 ⊢
 have HY:=hideI hY
 have HX4:=hideI hX4
 have hY2:Y<w2.heap.size:=lt_of_heap hX4
 have HB2:Hid (Below W.heap.size W w2):=hideI (HB1.out.trans (hb12.mono HB1.out.size))
 have HO2:=hideI (HO1.out.below hb12)
 have HMV2:=hideI (HMV1.out.same (hb12.block M1 HMV1.out.lt))
 have hqs:=row_cells ((HB2.out.block _ (by omega:w.heap.size<W.heap.size)).trans HX1.out) rfl
 have q0:=hqs 0
 have q1:=hqs 1
 have q2:=hqs 2
 have q3:=hqs 3
 have q4:=hqs 4
 have q5:=hqs 5
 have q6:=hqs 6
 have q7:=hqs 7
 have q8:=hqs 8
 have q9:=hqs 9
 clear hqs hw2 hX4 hb12 hY
 go_upto_region 4 with(first
  | (go_at_call 55;go_must (refine(HOP.out w2 HB2.out).mono ?_);rintro e w3 ⟨rfl,⟨nn,F,hnn,⟨Dm,hown,_,hat⟩,hF⟩,hb3⟩;have hsz:=hown.size_le;have HMEM:Hid (∀ id,id∉intKeys Dm):=hideI (fun id h=>HNO.out id ((hF id).1 (by have h2:=(mem_intKeys hown id).1 h;rw[MapV.has hat id]at h2;exact h2)));have HSO:=hideI (sortedKeysV (w2.heap.size+1) nn Dm _ w3 w3.heap.size rfl hown (by unfold maxLen;omega) (by omega));have HB3:=hideI hb3;clear hown hat hF hb3 hsz hnn q0 q1 q2 q3 q4 q5 q6 q7 q8 q9)
  | (go_at_call 54;refine(mapsKeysV _ _).mono ?_;rintro e w4 ⟨rfl,rfl⟩)
  | (go_at_call 53;go_must (refine HSO.out.mono ?_);rintro e w5 ⟨v,ss,rfl,hss,hrow,hb5⟩;have hse:ss=[]:=(List.eq_nil_iff_forall_not_mem.2 fun x hx=>HMEM.out x (hss.mem_iff.1 hx));subst hse;have HB5:=hideI hb5;(obtain⟨As,cs,rfl⟩:=own_sl hrow);clear hss hrow hb5))
 have HB25:Hid (Below w2.heap.size w2 w5):=hideI (by
  have h1:=HB3.out
  exact(h1.alloc h1.size _).trans (HB5.out.mono (by have:=h1.size;omega)))
 go_loopw [17] (fun u wr=>u=.int .i64 0∧wr=w5) (fun _ _=>0)
 case atStart => exact⟨rfl,rfl⟩
 case round =>
  obtain⟨rfl,hwr⟩:=hrel
  obtain rfl:=hwr.symm
  have hcs:=row_cells ((HB25.out.block _ hY2).trans HX4.out) rfl
  have k0:=hcs 0
  have k1:=hcs 1
  have k2:=hcs 2
  have k3:=hcs 3
  have k4:=hcs 4
  have k5:=hcs 5
  have k6:=hcs 6
  have hO5:=HO2.out.below HB25.out
  have HO5:=hideI hO5
  have hMV5:=HMV2.out.same (HB25.out.block M1 HMV2.out.lt)
  have HEA:=hideI (eachAt3_any f v1 f.blocks.length c1 0 Y A1 _ w5 HE2.out rfl HN5.out HSM.out HFR2.out (turn_seer f v1 Y M1 w5 (OwnG.rd hO5 HSM.out) k6 (Nat.lt_of_lt_of_le hY2 HB25.out.size) hMV5 H0.out HID.out) (Below.refl _ _))
  clear hcs hO5 hMV5
  go_upto_region 10 with(go_at_call 91;go_must (refine HEA.out.mono ?_);rintro e w6 ⟨rfl,X,hb6⟩;have HB6:=hideI hb6;clear hb6 k0 k1 k2 k3 k4 k5 k6)
  have hcs:=row_cells ((HB6.out.block _ (Nat.lt_of_lt_of_le hY2 HB25.out.size)).trans ((HB25.out.block _ hY2).trans HX4.out)) rfl
  have k0:=hcs 0
  have k1:=hcs 1
  have k2:=hcs 2
  have k3:=hcs 3
  have k4:=hcs 4
  have k5:=hcs 5
  have k6:=hcs 6
  have HBW6:Hid (Below W.heap.size W w6):=hideI (HB2.out.trans ((HB25.out.mono HB2.out.size).trans (HB6.out.mono (Nat.le_trans HB2.out.size HB25.out.size))))
  have hx2:=(HBW6.out.block _ hwW).trans HX2.out
  have hns:=row_cells hx2 rfl
  have n0:=hns 0
  have n1:=hns 1
  have n2:=hns 2
  have n3:=hns 3
  have fr:=free_rowN hx2 rfl
  have f0:=fr 0
  have f1:=fr 1
  have f2:=fr 2
  have f3:=fr 3
  clear hcs hns fr hx2
  go_wp2
  have hno:∀ t,EE f f.blocks.length t→(v1 t).ownBlock≠some (w.heap.size+1):=fun t ht e=>by
   have h1:=(HO2.out.lt ht e).1
   have h2:=HBS.out
   omega
  refine bodyPost_ret (v:=.tuple #[.agg #[.slice P1 f.params.length pc1,.int .i64 f.arrays,.int .i64 f.cells,.slice A1 f.blocks.length c1],.int .i64 0]) (by simp[results,Tryz.results57,go_sem,n0,n1,n2,n3]) rfl ⟨v1,base,P1,pc1,A1,c1,rfl,HE1.out,HE2.out,?_,Nat.le_trans HB0.out.size HBS.out,?_⟩
  ·exact(((OwnG.other (HO5.out.below HB6.out) hno).other hno).other hno).other hno
  ·exact((((HB0.out.trans (HBW6.out.mono HB0.out.size)).setCell (by simp) _).setCell (by simp) _).setCell (by simp) _).setCell (by simp) _
end Go.Proofs.YtaehbgppfahdeaaGreat
