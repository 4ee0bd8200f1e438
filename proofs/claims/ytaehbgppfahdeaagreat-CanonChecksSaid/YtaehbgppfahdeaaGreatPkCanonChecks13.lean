/- What CanonChecks rests on, part 13: Shelf, Ids, FirstNew, CChanged, LoopM, LfM, LDom, LLatch, LpM, CAw1. -/
import Derived.Test.YtaehbgppfahdeaaGreatPkCanonChecks12
import Derived.Shelf.SlIterI.Nil
import Derived.Shelf.SortM.Plain
import Derived.Shelf.SortM.SortNone
import Derived.IntWalk
import Derived.BigQuiet
import Derived.Deep.QuietTactic
import Derived.Deep.LoopGhost

namespace Go.Proofs.YtaehbgppfahdeaaGreat
open Go.RowKit Go.Maps Go.Sort Go.Shelf
def keysL_ren:Go.Shelf.Ren:=⟨fun | 7 => 225 | 10 => 241 | n => n,fun | 23 => 127 | 26 => 3 | 3 => 3 | 28 => 108 | 0 => 0 | 27 => 107 | 33 => 148 | 4 => 4 | n => n,fun | n => n⟩
theorem keysL:Go.Proofs.SlLaysZI.n7 Tryz.prog keysL_ren:={
 mixed:=by kernel_rfl,
 f7:=⟨Tryz.f225.name,by decide,Tryz.func225.trans (congrArg some (by kernel_rfl))⟩,
 f10:=⟨Tryz.f241.name,by decide,Tryz.func241.trans (congrArg some (by kernel_rfl))⟩,
 t0:=Tryz.underlying0,
 a0:=Tryz.isAgg0,
 z0:=Tryz.sizeOf0,
 v0:=Tryz.zeroValue0,
 t4:=Tryz.underlying4,
 a4:=Tryz.isAgg4,
 z4:=Tryz.sizeOf4,
 v4:=Tryz.zeroValue4,
 t23:=Tryz.underlying127,
 a23:=Tryz.isAgg127,
 z23:=Tryz.sizeOf127,
 v23:=Tryz.zeroValue127,
 t26:=Tryz.underlying3,
 a26:=Tryz.isAgg3,
 z26:=Tryz.sizeOf3,
 v26:=Tryz.zeroValue3,
 t27:=Tryz.underlying107,
 a27:=Tryz.isAgg107,
 z27:=Tryz.sizeOf107,
 v27:=Tryz.zeroValue107,
 t28:=Tryz.underlying108,
 a28:=Tryz.isAgg108,
 z28:=Tryz.sizeOf108,
 v28:=Tryz.zeroValue108,
 t33:=Tryz.underlying148,
 a33:=Tryz.isAgg148,
 z33:=Tryz.sizeOf148,
 v33:=Tryz.zeroValue148 }
def sortedL_ren:Go.Shelf.Ren:=⟨fun | 6 => 53 | 8 => 88 | 9 => 89 | 11 => 141 | 13 => 143 | 12 => 142 | 23 => 194 | 24 => 195 | 14 => 186 | 15 => 187 | 16 => 188 | 17 => 189 | 18 => 190 | 19 => 191 | 20 => 181 | 21 => 192 | 22 => 193 | 25 => 220 | 26 => 221 | 27 => 222 | 28 => 223 | 29 => 224 | 30 => 214 | 31 => 240 | n => n,fun | 26 => 3 | 28 => 108 | 24 => 22 | 0 => 0 | 3 => 3 | 37 => 215 | 48 => 263 | 50 => 265 | 4 => 4 | 40 => 257 | 39 => 256 | 45 => 132 | 5 => 5 | 9 => 9 | 51 => 281 | 55 => 157 | 57 => 297 | 58 => 298 | 33 => 148 | n => n,fun | n => n⟩
theorem sortedL:Go.Proofs.SlLaysZI.n6 Tryz.prog sortedL_ren:={
 mixed:=by kernel_rfl,
 f6:=⟨Tryz.f53.name,by decide,Tryz.func53.trans (congrArg some (by kernel_rfl))⟩,
 f8:=⟨Tryz.f88.name,by decide,Tryz.func88.trans (congrArg some (by kernel_rfl))⟩,
 f11:=⟨Tryz.f141.name,by decide,Tryz.func141.trans (congrArg some (by kernel_rfl))⟩,
 t0:=Tryz.underlying0,
 a0:=Tryz.isAgg0,
 z0:=Tryz.sizeOf0,
 v0:=Tryz.zeroValue0,
 t24:=Tryz.underlying22,
 a24:=Tryz.isAgg22,
 z24:=Tryz.sizeOf22,
 v24:=Tryz.zeroValue22,
 t26:=Tryz.underlying3,
 a26:=Tryz.isAgg3,
 z26:=Tryz.sizeOf3,
 v26:=Tryz.zeroValue3,
 t28:=Tryz.underlying108,
 a28:=Tryz.isAgg108,
 z28:=Tryz.sizeOf108,
 v28:=Tryz.zeroValue108,
 i26:=by kernel_rfl }
def sortL_ren:Go.Shelf.Ren:=⟨fun | 5 => 89 | 8 => 143 | 7 => 142 | 19 => 194 | 20 => 195 | 10 => 186 | 11 => 187 | 12 => 188 | 13 => 189 | 14 => 190 | 15 => 191 | 16 => 181 | 17 => 192 | 18 => 193 | 30 => 220 | 31 => 221 | 32 => 222 | 33 => 223 | 34 => 224 | 35 => 214 | 40 => 240 | n => n,fun | 23 => 22 | 25 => 3 | 3 => 3 | 32 => 215 | 22 => 22 | 0 => 0 | 44 => 263 | 46 => 265 | 4 => 4 | 36 => 257 | 35 => 256 | 41 => 132 | 5 => 5 | 9 => 9 | 53 => 281 | 57 => 157 | 63 => 297 | 64 => 298 | n => n,fun | n => n⟩
theorem sortL:Go.Proofs.SlLaysM.n5 Tryz.prog sortL_ren:={
 mixed:=by kernel_rfl,
 f5:=⟨Tryz.f89.name,by decide,Tryz.func89.trans (congrArg some (by kernel_rfl))⟩,
 f7:=⟨Tryz.f142.name,by decide,Tryz.func142.trans (congrArg some (by kernel_rfl))⟩,
 f8:=Tryz.func143.trans (congrArg some (by kernel_rfl)),
 f10:=⟨Tryz.f186.name,by decide,Tryz.func186.trans (congrArg some (by kernel_rfl))⟩,
 f11:=⟨Tryz.f187.name,by decide,Tryz.func187.trans (congrArg some (by kernel_rfl))⟩,
 f12:=⟨Tryz.f188.name,by decide,Tryz.func188.trans (congrArg some (by kernel_rfl))⟩,
 f13:=⟨Tryz.f189.name,by decide,Tryz.func189.trans (congrArg some (by kernel_rfl))⟩,
 f14:=⟨Tryz.f190.name,by decide,Tryz.func190.trans (congrArg some (by kernel_rfl))⟩,
 f15:=⟨Tryz.f191.name,by decide,Tryz.func191.trans (congrArg some (by kernel_rfl))⟩,
 f16:=⟨Tryz.f181.name,by decide,Tryz.func181.trans (congrArg some (by kernel_rfl))⟩,
 f17:=⟨Tryz.f192.name,by decide,Tryz.func192.trans (congrArg some (by kernel_rfl))⟩,
 f18:=⟨Tryz.f193.name,by decide,Tryz.func193.trans (congrArg some (by kernel_rfl))⟩,
 f19:=Tryz.func194.trans (congrArg some (by kernel_rfl)),
 f20:=Tryz.func195.trans (congrArg some (by kernel_rfl)),
 f30:=⟨Tryz.f220.name,by decide,Tryz.func220.trans (congrArg some (by kernel_rfl))⟩,
 f31:=Tryz.func221.trans (congrArg some (by kernel_rfl)),
 f32:=Tryz.func222.trans (congrArg some (by kernel_rfl)),
 f33:=⟨Tryz.f223.name,by decide,Tryz.func223.trans (congrArg some (by kernel_rfl))⟩,
 f34:=⟨Tryz.f224.name,by decide,Tryz.func224.trans (congrArg some (by kernel_rfl))⟩,
 f35:=⟨Tryz.f214.name,by decide,Tryz.func214.trans (congrArg some (by kernel_rfl))⟩,
 f40:=⟨Tryz.f240.name,by decide,Tryz.func240.trans (congrArg some (by kernel_rfl))⟩,
 t0:=Tryz.underlying0,
 a0:=Tryz.isAgg0,
 z0:=Tryz.sizeOf0,
 v0:=Tryz.zeroValue0,
 t3:=Tryz.underlying3,
 a3:=Tryz.isAgg3,
 z3:=Tryz.sizeOf3,
 v3:=Tryz.zeroValue3,
 t4:=Tryz.underlying4,
 a4:=Tryz.isAgg4,
 z4:=Tryz.sizeOf4,
 v4:=Tryz.zeroValue4,
 t5:=Tryz.underlying5,
 a5:=Tryz.isAgg5,
 z5:=Tryz.sizeOf5,
 v5:=Tryz.zeroValue5,
 t9:=Tryz.underlying9,
 a9:=Tryz.isAgg9,
 z9:=Tryz.sizeOf9,
 v9:=Tryz.zeroValue9,
 t22:=Tryz.underlying22,
 a22:=Tryz.isAgg22,
 z22:=Tryz.sizeOf22,
 v22:=Tryz.zeroValue22,
 t23:=Tryz.underlying22,
 a23:=Tryz.isAgg22,
 z23:=Tryz.sizeOf22,
 v23:=Tryz.zeroValue22,
 t25:=Tryz.underlying3,
 a25:=Tryz.isAgg3,
 z25:=Tryz.sizeOf3,
 v25:=Tryz.zeroValue3,
 t32:=Tryz.underlying215,
 a32:=Tryz.isAgg215,
 z32:=Tryz.sizeOf215,
 v32:=Tryz.zeroValue215,
 t35:=Tryz.underlying256,
 a35:=Tryz.isAgg256,
 z35:=Tryz.sizeOf256,
 v35:=Tryz.zeroValue256,
 t36:=Tryz.underlying257,
 a36:=Tryz.isAgg257,
 z36:=Tryz.sizeOf257,
 v36:=Tryz.zeroValue257,
 t41:=Tryz.underlying132,
 a41:=Tryz.isAgg132,
 z41:=Tryz.sizeOf132,
 v41:=Tryz.zeroValue132,
 t44:=Tryz.underlying263,
 a44:=Tryz.isAgg263,
 z44:=Tryz.sizeOf263,
 v44:=Tryz.zeroValue263,
 t46:=Tryz.underlying265,
 a46:=Tryz.isAgg265,
 z46:=Tryz.sizeOf265,
 v46:=Tryz.zeroValue265,
 t53:=Tryz.underlying281,
 a53:=Tryz.isAgg281,
 z53:=Tryz.sizeOf281,
 v53:=Tryz.zeroValue281,
 t57:=Tryz.underlying157,
 a57:=Tryz.isAgg157,
 z57:=Tryz.sizeOf157,
 v57:=Tryz.zeroValue157,
 t63:=Tryz.underlying297,
 a63:=Tryz.isAgg297,
 z63:=Tryz.sizeOf297,
 v63:=Tryz.zeroValue297,
 t64:=Tryz.underlying298,
 a64:=Tryz.isAgg298,
 z64:=Tryz.sizeOf298,
 v64:=Tryz.zeroValue298 }
theorem sortsL (m:Nat):AnyZI.SortsIn Tryz.prog sortedL_ren Fence.wide m :=
 ⟨fun blk off cap ss W hH hblk hsz => callsIn_wide.2 (AnyM.slices_Sort_int sortL blk off cap ss W hH hblk hsz),
  fun p cap W => callsIn_wide.2 (AnyM.slices_Sort_int_none sortL p cap W)⟩
end Go.Proofs.YtaehbgppfahdeaaGreat

namespace Go.Proofs.YtaehbgppfahdeaaGreat
open Go.RowKit Go.Maps Go.Sort Go.Shelf
theorem MapIs.keys {w:World} {M:Nat} {ds:Defs} {D:DataW Unit} (hown:w.ownsMap Tryz.prog 3 (plainElem Tryz.prog 3) M ds.length D) (hat:∀ id z,D.atKey (.int .i64 id) z=match ds.at id with | some t => .lit (.int .i64 t) | none => z) (hn:(ds.map (·.1)).Nodup) :
  (ds.map (·.1)).Perm (intKeys D):=by
 refine CollectedI.perm (left:=fun _ => false) ⟨hn,fun x => ?_⟩ hown lawInt Tryz.underlying3 (fun _ => rfl)
 rw [MapIs.has hat x,at_some]
 simp
theorem mapsKeys (mb:Option Nat) (W:World):Calls Tryz.prog 225 #[.map mb] W fun e w' => e=.returned (.func (.func 241) #[] #[.pointer (some ⟨W.heap.size,0,none⟩)]) ∧ w'=W.alloc (.cells #[.map mb] 127) :=
 (callsIn_wide (n:=5)).1 (AnyZI.keys_in keysL Fence.wide 5 trivial rfl mb W)
theorem sortedKeys' {H:Type} (b nn:Nat) (D0:DataW H) (R:Value → Option (DataW H × List MemPlace)) (w:World) (hown:w.ownsMap Tryz.prog 3 R b nn D0) (hmax:Maps.size D0 ≤ maxLen) (hbytes:Maps.size D0 * 8 ≤ 140737488355328) :
  Calls Tryz.prog 53 #[.func (.func 241) #[] #[.pointer (some ⟨w.heap.size,0,none⟩)]] (w.alloc (.cells #[.map (some b)] 127)) fun e w' => ∃ (v:Value) (ss:List Int),e=.returned v ∧ ss.Perm (intKeys D0) ∧
   w'.ownsRow (w.alloc (.cells #[.map (some b)] 127)).heap.size 3 1 v ss.length ((ss.mergeSort (fun x y => decide (x ≤ y))).map encZ) ∧ (v=.slice none 0 0 ↔ ss=[]) ∧ Below (w.alloc (.cells #[.map (some b)] 127)).heap.size (w.alloc (.cells #[.map (some b)] 127)) w':=by
 have hbl:=hown.lt
 have hseq:SeqGives Fence.wide 2 Tryz.prog 241 #[.pointer (some ⟨w.heap.size,0,none⟩)] encZ (fun ss => ss.Perm (intKeys D0)) (Maps.size D0) (w.alloc (.cells #[.map (some b)] 127)) :=
  AnyZI.keys_gives (ρ:=keysL_ren) { keysL with } Fence.wide _ trivial rfl (by omega) w.heap.size b nn D0 _ (by simp) (by simp) (by
   obtain ⟨es,clock,hb,Ft,hs,hD⟩:=hown
   exact ⟨es,clock,(Below.heap_alloc _ _ b hbl).trans hb,Ft,hs,hD⟩)
 exact (callsIn_wide (n:=5)).1 (AnyZI.sorted_in sortedL Fence.wide 5 trivial trivial trivial trivial rfl (by omega) (sortsL _) (enters_of Tryz.func89 (by kernel_rfl) rfl) 241 #[.pointer (some ⟨w.heap.size,0,none⟩)] trivial (enters_of Tryz.func241 (by kernel_rfl) rfl) _ _ hmax hbytes _ hseq)
theorem sortedKeys {H:Type} (b nn:Nat) (D0:DataW H) (R:Value → Option (DataW H × List MemPlace)) (w:World) (n:Nat) (hn:n=w.heap.size) (hown:w.ownsMap Tryz.prog 3 R b nn D0) (hmax:Maps.size D0 ≤ maxLen) (hbytes:Maps.size D0 * 8 ≤ 140737488355328) :
  Calls Tryz.prog 53 #[.func (.func 241) #[] #[.pointer (some ⟨n,0,none⟩)]] (w.alloc (.cells #[.map (some b)] 127)) fun e w' => ∃ (v:Value) (ss:List Int),e=.returned v ∧ ss.Perm (intKeys D0) ∧
   w'.ownsRow (n + 1) 3 1 v ss.length ((ss.mergeSort (fun x y => decide (x ≤ y))).map encZ) ∧ Below (n + 1) (w.alloc (.cells #[.map (some b)] 127)) w':=by
 subst hn
 refine (sortedKeys' b nn D0 R w hown hmax hbytes).mono ?_
 rintro e w' ⟨v,ss,rfl,hS,hrow,_,hb⟩
 exact ⟨v,ss,rfl,hS,by simpa using hrow,by simpa using hb⟩
def IdsPost (f:FuncM) (w:World) (e:Ending) (w':World):Prop :=
 ∃ v,e=.returned (.tuple #[v,.int .i64 (lookM f).1]) ∧ NewInts w.heap.size w' v (idsOut f) ∧ Below w.heap.size w w'
set_option maxHeartbeats 1000000 in
theorem ids_any (f:FuncM) (B:Nat) (pv bv:Value) (w:World) (hpv:Ints w B pv f.params) (hbv:BlocksR w B bv f.blocks) (hB:B ≤ w.heap.size) (hid:∀ u ∈ usesM f,I64 u.1) :
  Calls Tryz.prog 197 #[.agg #[pv,.int .i64 f.arrays,.int .i64 f.cells,bv]] w (IdsPost f w):=by
 have HP:=hideI hpv
 have HB:=hideI hbv
 have HID:=hideI hid
 obtain ⟨P,pc,rfl,_⟩:=hpv
 obtain ⟨A,c,rfl,_⟩:=hbv
 have hk:Keeps B w (w.alloc (.cells #[.slice P f.params.length pc,.int .i64 f.arrays,.int .i64 f.cells,.slice A f.blocks.length c] 25)):=(Keeps.refl w).alloc hB _
 have HL:=hideI (lookAt_any f B _ _ _ (HP.out.keeps hk) (HB.out.keeps hk) (by simp;omega) HID.out)
 clear hid hk
 go_enter Tryz.func197,Tryz.ntmps197
 go_wp2_with fail
 refine HL.out.mono ?_
 rintro e w1 ⟨hb1,h | h⟩
 ·obtain ⟨h0,M,hM,rfl,hm⟩:=h
  have HB1:=hideI (below_one (hb1.mono (by simp)))
  obtain ⟨D,hown,hD,hwd,hat⟩:=hm
  have hnd:=formed_nodup (look_formed h0)
  have hpm:=MapIs.keys hown hat hnd
  have hsl:=hown.size_le
  have hl:=look_len h0
  have HS:=hideI (sortedKeys M _ D _ _ (w1.heap.size + 1) (by simp) (hown.alloc (.cells #[.slice P f.params.length pc,.int .i64 f.arrays,.int .i64 f.cells,.slice A f.blocks.length c,.map (some M)] 129)) (by unfold maxLen;omega) (by omega))
  have HPM:=hideI hpm
  have HLEN:=hideI hl
  have H0:=hideI h0
  clear hb1 h0 hat hwd hpm hsl hl hnd hown
  go_wp2_with (first
   | (go_at_call 225;refine (mapsKeys _ _).mono ?_;rintro e w2 ⟨rfl,rfl⟩)
   | (go_at_call 53;refine HS.out.mono ?_;rintro e w3 ⟨v,ss,rfl,hS,hrow,hb3⟩;have HR:=hideI hrow;have HSS:=hideI hS;have HB3:=hideI hb3;clear hS hrow hb3))
  go_ret2
  have e1:idsOut f=ss.mergeSort fun x y => decide (x ≤ y):=by
   unfold idsOut idsS
   rw [if_pos H0.out]
   exact mergeSort_of_perm_i (HPM.out.trans HSS.out.symm)
  refine ⟨v,by rw [H0.out];rfl,?_,?_⟩
  ·rw [e1]
   have h1:=newInts_own HR.out (by rw [List.length_mergeSort,HSS.out.length_eq,← HPM.out.length_eq,List.length_map];have:=HLEN.out;omega)
   obtain ⟨A2,c2,hv,hm2,hx2⟩:=h1
   exact ⟨A2,c2,hv,hm2,fun hp => by obtain ⟨g,cs,q1,q2,q3⟩:=hx2 hp;exact ⟨g,cs,q1,by have:=HB1.out.size;omega,q3⟩⟩
  ·exact ((HB1.out.alloc HB1.out.size _).alloc (by have:=HB1.out.size;simp;omega) _).trans (HB3.out.mono (by have:=HB1.out.size;simp;omega))
 ·obtain ⟨h0,rfl⟩:=h
  have HB1:=hideI (below_one (hb1.mono (by simp)))
  have hb:((lookM f).1 != 0)=true:=by simpa using h0
  have H0:=hideI h0
  clear hb1 h0
  go_wp2
  go_ret2
  exact ⟨_,rfl,by unfold idsOut;rw [if_neg H0.out];exact NewInts.nil _ _,HB1.out.alloc HB1.out.size _⟩
end Go.Proofs.YtaehbgppfahdeaaGreat

namespace Go.Proofs.YtaehbgppfahdeaaGreat
open Go.RowKit Go.Maps
def roomM (f:FuncM):Int:=match (idsOut f).getLast? with | some x => x + 1 | none => 0
set_option maxRecDepth 100000 in
set_option maxHeartbeats 1000000 in
theorem roomFor_any (f:FuncM) (B:Nat) (pv bv:Value) (w:World) (hpv:Ints w B pv f.params) (hbv:BlocksR w B bv f.blocks) (hB:B ≤ w.heap.size) (hid:∀ u ∈ usesM f,I64 u.1) (hr:∀ x ∈ idsOut f,0 ≤ x ∧ x ≤ 1048575) :
  Calls Tryz.prog 146 #[.agg #[pv,.int .i64 f.arrays,.int .i64 f.cells,bv]] w fun e w' => e=.returned (.int .i64 (roomM f)) ∧ Below w.heap.size w w':=by
 have HP:=hideI hpv
 have HB:=hideI hbv
 obtain ⟨P,pc,rfl,_⟩:=hpv
 obtain ⟨A,c,rfl,_⟩:=hbv
 obtain ⟨W0,hW0⟩:∃ W0:World,W0=w.alloc (.cells #[.slice P f.params.length pc,.int .i64 f.arrays,.int .i64 f.cells,.slice A f.blocks.length c] 25):=⟨_,rfl⟩
 have hb0:Below w.heap.size w W0:=by rw [hW0];exact (Below.refl _ w).alloc (Nat.le_refl _) _
 have hx0:W0.heap[w.heap.size]?=some (.cells #[.slice P f.params.length pc,.int .i64 f.arrays,.int .i64 f.cells,.slice A f.blocks.length c] 25 (0,0)):=by rw [hW0];exact heap_alloc_new w _
 have hk:Keeps B w W0:=Keeps.of_below (hb0.mono hB)
 have HC:=hideI (ids_any f B _ _ W0 (HP.out.keeps hk) (HB.out.keeps hk) (Nat.le_trans hB hb0.size) hid)
 have HB0:=hideI hb0
 have HW0:=hideI hW0
 have q:=row_cells hx0 rfl
 have q0:=q 0
 have q1:=q 1
 have q2:=q 2
 have q3:=q 3
 have HR:=hideI hr
 clear q hb0 hx0 hk hW0 hid hr
 obtain ⟨ids,hids⟩:∃ ids,ids=idsOut f:=⟨_,rfl⟩
 have HIDS:=hideI hids
 unfold IdsPost at HC
 rw [← hids] at HC HR
 clear hids
 go_enter Tryz.func146,Tryz.ntmps146
 go_upto_region 1 with fail
 rw [← HW0.out]
 cases hl:ids.getLast? with
 | none =>
  obtain rfl:ids=[]:=by simpa using hl
  have HE:Hid (roomM f=0):=hideI (by unfold roomM;rw [← HIDS.out];rfl)
  clear hl
  go_wp2_with (first | (go_at_call 197;refine HC.out.mono ?_;rintro e w1 ⟨v,rfl,⟨A1,c1,hv,_,_⟩,hb⟩;obtain rfl:v=.slice A1 0 c1:=hv;have HB1:=hideI hb;clear hb))
  go_ret
  exact ⟨by rw [HE.out];rfl,HB0.out.trans (HB1.out.mono HB0.out.size)⟩
 | some x =>
  obtain ⟨r,hr⟩:∃ r,ids=r ++ [x]:=by
   cases hl2:ids.reverse with
   | nil => have:ids=[]:=by simpa using hl2
            subst this;cases hl
   | cons a r =>
    have hle:ids=r.reverse ++ [a]:=by rw [← List.reverse_reverse ids,hl2,List.reverse_cons]
    rw [hle,List.getLast?_append] at hl
    simp at hl
    subst hl
    exact ⟨_,hle⟩
  have hxr:=HR.out x (by rw [hr];simp)
  have HE:Hid (roomM f=x + 1):=hideI (by unfold roomM;rw [← HIDS.out,hl])
  have hlen:ids.length=r.length + 1:=by rw [hr];simp
  have HLAST:Hid (ids[r.length]?.getD 0=x):=hideI (by rw [hr];simp)
  obtain ⟨n,hn⟩:∃ n,n=r.length:=⟨_,rfl⟩
  rw [← hn] at hlen HLAST
  have HLEN:=hideI hlen
  have hw:IntKind.i64.wrap (x + 1)=x + 1:=IntWalk.i64_in _ (by omega)
  have hw2:wrap64 (x + 1)=x + 1:=by unfold wrap64;omega
  clear hl hr hn hlen
  go_wp2_with (first | (go_at_call 197;refine HC.out.mono ?_;rintro e w1 ⟨v,rfl,⟨A1,c1,hv,hle,hnew⟩,hb⟩;obtain ⟨g1,cs1,rfl,_,hg1,hc1⟩:=hnew (by rw [HLEN.out];omega);rw [HLEN.out] at hv hle;obtain rfl:v=.slice (some ⟨g1,0,none⟩) (n + 1) c1:=hv;have HB1:=hideI hb;have y0:w1.cell? ⟨g1,n,none⟩=some (.int .i64 x):=(cell_of_row w1 g1 n cs1 _ (0,0) hg1).trans ((hc1 n (by rw [HLEN.out];omega)).trans (by rw [HLAST.out]));clear hb hnew hg1 hc1))
  go_ret
  exact ⟨by rw [HE.out];rfl,HB0.out.trans (HB1.out.mono HB0.out.size)⟩
end Go.Proofs.YtaehbgppfahdeaaGreat

namespace Go.Proofs.YtaehbgppfahdeaaGreat
open Go.RowKit Go.Maps
def ChangedPost (f:FuncM) (w:World) (e:Ending) (w':World):Prop :=
 ∃ (v1:Vals) (base:Nat) (P:Option Addr) (pc:Nat) (A:Option Addr) (c:Nat) (nx:Int),e=.returned (.agg #[.slice P f.params.length pc,.int .i64 f.arrays,.int .i64 f.cells,.slice A f.blocks.length c,.int .i64 nx]) ∧ v1 .params=.slice P f.params.length pc ∧ v1 .blocks=.slice A f.blocks.length c ∧ OwnG w' base (rowOf f v1) v1 (EE f f.blocks.length) ∧ w.heap.size ≤ base ∧ Below w.heap.size w w'
set_option maxRecDepth 100000 in
set_option maxHeartbeats 8000000 in
theorem changed_any (f:FuncM) (B:Nat) (pv bv:Value) (w:World) (hpv:Ints w B pv f.params) (hbv:BlocksR w B bv f.blocks) (hB:B ≤ w.heap.size) (hid:∀ u ∈ usesM f,I64 u.1) (hr:∀ x ∈ idsOut f,0 ≤ x ∧ x ≤ 1048575) (h0:(lookM f).1=0) (hf:FnFits f) :
  Calls Tryz.prog 134 #[.agg #[pv,.int .i64 f.arrays,.int .i64 f.cells,bv]] w (ChangedPost f w):=by
 have HP:=hideI hpv
 have HBL:=hideI hbv
 obtain ⟨P,pc,rfl,_⟩:=hpv
 obtain ⟨A,c,rfl,_⟩:=hbv
 obtain ⟨W,hW⟩:∃ W:World,W=(w.alloc (.cells #[.slice P f.params.length pc,.int .i64 f.arrays,.int .i64 f.cells,.slice A f.blocks.length c] 25)).alloc (.cells #[.slice none 0 0,.int .i64 0,.int .i64 0,.slice none 0 0,.int .i64 0] 199):=⟨_,rfl⟩
 have HB0:Hid (Below w.heap.size w W):=by show Below _ _ _;rw [hW];exact ((Below.refl _ w).alloc (Nat.le_refl _) _).alloc (by simp) _
 have hx1:W.heap[w.heap.size]?=some (.cells #[.slice P f.params.length pc,.int .i64 f.arrays,.int .i64 f.cells,.slice A f.blocks.length c] 25 (0,0)):=by
  rw [hW,Below.heap_alloc _ _ _ (by simp)]
  exact heap_alloc_new w _
 have hx2:W.heap[w.heap.size + 1]?=some (.cells #[.slice none 0 0,.int .i64 0,.int .i64 0,.slice none 0 0,.int .i64 0] 199 (0,0)):=by
  rw [hW]
  have:=heap_alloc_new (w.alloc (.cells #[.slice P f.params.length pc,.int .i64 f.arrays,.int .i64 f.cells,.slice A f.blocks.length c] 25)) (.cells #[.slice none 0 0,.int .i64 0,.int .i64 0,.slice none 0 0,.int .i64 0] 199)
  simpa using this
 have HX1:=hideI hx1
 have HX2:=hideI hx2
 have hwW:w.heap.size + 1 < W.heap.size:=lt_of_heap hx2
 have hBW:B ≤ W.heap.size:=Nat.le_trans hB HB0.out.size
 have hk:Keeps B w W:=Keeps.of_below (HB0.out.mono hB)
 have HSM:=hideI (look_small h0)
 have HFF:=hideI hf
 have HFR:Hid (Calls Tryz.prog 64 #[.agg #[.slice P f.params.length pc,.int .i64 f.arrays,.int .i64 f.cells,.slice A f.blocks.length c]] W.drew (FreshPost f W.drew)):=fresh_any f B _ _ W.drew (HP.out.keeps hk) (HBL.out.keeps hk) hBW h0
 have HFN:Hid (∀ W',Below W.heap.size W W' → Calls Tryz.prog 146 #[.agg #[.slice P f.params.length pc,.int .i64 f.arrays,.int .i64 f.cells,.slice A f.blocks.length c]] W' fun e w' => e=.returned (.int .i64 (roomM f)) ∧ Below W'.heap.size W' w'):=fun W' hW' =>
  roomFor_any f B _ _ W' ((HP.out.keeps hk).keeps (Keeps.of_below (hW'.mono hBW))) ((HBL.out.keeps hk).keeps (Keeps.of_below (hW'.mono hBW))) (Nat.le_trans hBW hW'.size) hid hr
 have HS:Hid (∀ W':World,Below W.heap.size W W' → W'.cell? ⟨w.heap.size,0,none⟩=some (.slice P f.params.length pc) ∧ W'.cell? ⟨w.heap.size,1,none⟩=some (.int .i64 f.arrays) ∧ W'.cell? ⟨w.heap.size,2,none⟩=some (.int .i64 f.cells) ∧ W'.cell? ⟨w.heap.size,3,none⟩=some (.slice A f.blocks.length c)):=fun W' hW' => by
  have hq:=row_cells ((hW'.block _ (by omega)).trans HX1.out) rfl
  exact ⟨hq 0,hq 1,hq 2,hq 3⟩
 have hS0:=HS.out W (Below.refl _ _)
 have HW0:=hideI hW
 clear hx1 hx2 hk hid hr h0 hf hW
 go_enter Tryz.func134,Tryz.ntmps134
 go_upto_region 1 with fail
 rw [← HW0.out]
 refine wp_region_late (by kernel_rfl) (fun W' => W'.cell? ⟨w.heap.size,0,none⟩=some (.slice P f.params.length pc) ∧ W'.cell? ⟨w.heap.size,1,none⟩=some (.int .i64 f.arrays) ∧ W'.cell? ⟨w.heap.size,2,none⟩=some (.int .i64 f.cells) ∧ W'.cell? ⟨w.heap.size,3,none⟩=some (.slice A f.blocks.length c)) [5] ?_
 refine wpAnyT_take [5] (i:=0) (v:=?_) rfl (by kernel_rfl) (by kernel_rfl) (by kernel_rfl) (by kernel_rfl) (by kernel_rfl) (by kernel_rfl) (fun _ _ _ h => h) hS0 (Or.inl ⟨by rfl,?_⟩) ?_
 rotate_left
 ·(intro w hSw;go_split_ands;go_simp;try with_reducible rfl)
 try simp only [Act.put,List.setIfInBounds_toArray,List.set_cons_zero,List.set_cons_succ]
 refine wpAnyT_take [5] (i:=2) (v:=?_) rfl (by kernel_rfl) (by kernel_rfl) (by kernel_rfl) (by kernel_rfl) (by kernel_rfl) (by kernel_rfl) (fun _ _ _ h => h) hS0 (Or.inl ⟨by rfl,?_⟩) ?_
 rotate_left
 ·(intro w hSw;go_split_ands;go_simp;try with_reducible rfl)
 try simp only [Act.put,List.setIfInBounds_toArray,List.set_cons_zero,List.set_cons_succ]
 refine wpAnyT_ready (rs:=[1]) (by kernel_rfl) (by simp) ?_
 refine AllReadyT.cons rfl (fun K hK => ?_) ?_
 ·-- 1 fresh.Func
  go_simp
  refine HFR.out.mono ?_
  rintro e w3 ⟨v1,rfl,ho,hb3d⟩
  have HB3:Hid (Below W.heap.size W w3):=hideI ⟨hb3d.os,hb3d.tape,hb3d.output,hb3d.size,hb3d.block⟩
  have HOW:Hid (OwnG w3 (W.heap.size + 2) (rowOf f v1) v1 (EE f f.blocks.length)):=ho
  have hrd:=OwnG.rd ho HSM.out
  obtain ⟨P1,pc1,hv1,_⟩:=hrd.params
  obtain ⟨A1,c1,hv2,_⟩:=hrd.blocks HFF.out
  rw [hv1,hv2]
  have HV1:=hideI hv1
  have HV2:=hideI hv2
  clear ho hb3d hrd hv1 hv2
  refine hK.out _ _ (fun _ _ => HS.out _ HB3.out) ?_
  clear hK K
  try simp only [Act.put,List.setIfInBounds_toArray,List.set_cons_zero,List.set_cons_succ]
  refine wpAnyT_ready (rs:=[3]) (by kernel_rfl) (by simp) ?_
  refine AllReadyT.cons rfl (fun K hK => ?_) ?_
  ·-- 3 FirstNew
   go_simp
   refine (HFN.out w3 HB3.out).mono ?_
   rintro e w4 ⟨rfl,hb4⟩
   have HB4:=hideI (HB3.out.trans (hb4.mono HB3.out.size))
   have HOW4:=hideI (HOW.out.below hb4)
   clear hb4
   refine hK.out _ _ (fun _ _ => HS.out _ HB4.out) ?_
   clear hK K
   try simp only [Act.put,List.setIfInBounds_toArray,List.set_cons_zero,List.set_cons_succ]
   refine wpAnyT_quiet (i:=4) (v:=?_) rfl (by kernel_rfl) (by kernel_rfl) (by kernel_rfl) (fun _ _ _ h => h) (Or.inl ⟨by rfl,?_⟩) ?_
   rotate_left
   ·(intro w;go_simp;try with_reducible rfl)
   try simp only [Act.put,List.setIfInBounds_toArray,List.set_cons_zero,List.set_cons_succ]
   refine wpAnyT_ready (rs:=[5]) (by kernel_rfl) (by simp) ?_
   refine AllReadyT.cons rfl (fun K hK => ?_) ?_
   ·-- 5 store
    have hx2:=(HB4.out.block _ hwW).trans HX2.out
    have hns:=row_cells hx2 rfl
    have n0:=hns 0
    have n1:=hns 1
    have n2:=hns 2
    have n3:=hns 3
    have n4:=hns 4
    have fr:=free_rowN hx2 rfl
    have f0:=fr 0
    have f1:=fr 1
    have f2:=fr 2
    have f3:=fr 3
    have f4:=fr 4
    clear hns fr hx2
    go_simp
    refine hK.out _ _ (fun h => absurd (by simp) h) ?_
    clear hK K
    try simp only [Act.put,List.setIfInBounds_toArray,List.set_cons_zero,List.set_cons_succ]
    refine wpAnyT_done (by kernel_rfl) ?_ _
    go_wp2_with fail
    have hno:∀ t,EE f f.blocks.length t → (v1 t).ownBlock ≠ some (w.heap.size + 1):=fun t ht e => by
     have:=(HOW4.out.lt ht e).1
     omega
    have hO5:=(((((OwnG.other HOW4.out hno (a:=⟨w.heap.size + 1,0,none⟩) (u:=.slice P1 f.params.length pc1)).other hno (a:=⟨w.heap.size + 1,1,none⟩) (u:=.int .i64 f.arrays)).other hno (a:=⟨w.heap.size + 1,2,none⟩) (u:=.int .i64 f.cells)).other hno (a:=⟨w.heap.size + 1,3,none⟩) (u:=.slice A1 f.blocks.length c1)).other hno (a:=⟨w.heap.size + 1,4,none⟩) (u:=.int .i64 (roomM f)))
    refine bodyPost_ret (v:=.agg #[.slice P1 f.params.length pc1,.int .i64 f.arrays,.int .i64 f.cells,.slice A1 f.blocks.length c1,.int .i64 (roomM f)]) (by simp [results,Tryz.results134,go_sem,n0,n1,n2,n3,n4]) rfl ⟨v1,W.heap.size + 2,P1,pc1,A1,c1,_,rfl,HV1.out,HV2.out,hO5,Nat.le_trans HB0.out.size (by omega),?_⟩
    exact (((((HB0.out.trans (HB4.out.mono HB0.out.size)).setCell (by simp) _).setCell (by simp) _).setCell (by simp) _).setCell (by simp) _).setCell (by simp) _
   ·exact AllReadyT.nil
  ·exact AllReadyT.nil
 ·exact AllReadyT.nil
end Go.Proofs.YtaehbgppfahdeaaGreat

namespace Go.Proofs.YtaehbgppfahdeaaGreat
open Go.RowKit Go.Maps
def BackP (bs:List BlockM) (o:List Nat) (h p:Nat):Prop:=h ∈ succM bs p ∧ OverP bs o h p
inductive InL (bs:List BlockM) (o:List Nat) (h:Nat):Nat → Prop
 | head:InL bs o h h
 | latch {p:Nat} (k:BackP bs o h p):InL bs o h p
 | step {b p:Nat} (k:InL bs o h b) (hne:b ≠ h) (e:b ∈ succM bs p):InL bs o h p
def AllIn (bs:List BlockM) (o:List Nat):Prop:=∀ b,b < bs.length → b ∈ o
theorem lsucc_lt {bs:List BlockM} {b p:Nat} (h:b ∈ succM bs p):p < bs.length:=by
 unfold succM at h
 cases e:bs[p]? with
 | none => rw [e] at h;cases h
 | some q => exact (List.getElem?_eq_some_iff.1 e).1
theorem reachW_back {bs:List BlockM} {x b p:Nat} (h:ReachW bs (x:Int) p) (e:b ∈ succM bs p) (hne:b ≠ x):ReachW bs (x:Int) b :=
 .step h e (by omega)
section
variable {bs:List BlockM} {o:List Nat} {h k b p:Nat}
theorem InL.over (hA:AllIn bs o) (hh:h ∈ o) (l:InL bs o h b):OverP bs o h b:=by
 induction l with
 | head => exact OverP.refl hh
 | latch k => exact k.2
 | step l hne e ih =>
  refine ⟨hh,hA _ (lsucc_lt e),fun hr => ih.2.2 (reachW_back hr e hne)⟩
theorem OverP.antisymm {pl:Nat → Nat} {par:Nat → Option Nat} (hO:Ord (succM bs) o pl) (hD:Done (succM bs) o pl par) (h1:OverP bs o h k) (h2:OverP bs o k h):h=k :=
 hD.tree.antisymm ((over_anc hO hD h1.2.1).1 h1) ((over_anc hO hD h2.2.1).1 h2)
theorem InL.sub {pl:Nat → Nat} {par:Nat → Option Nat} (hO:Ord (succM bs) o pl) (hD:Done (succM bs) o pl par) (hA:AllIn bs o) (hh:h ∈ o) (hk:k ∈ o) (hne:h ≠ k) (l:InL bs o k h) (m:InL bs o h b):InL bs o k b:=by
 induction m with
 | head => exact l
 | latch q => exact .step l hne q.1
 | @step b p m hb e ih =>
  by_cases hbk:b=k
  ·subst hbk
   exact absurd (OverP.antisymm hO hD (m.over hA hh) (l.over hA hk)) hne
  ·exact .step ih hbk e
end
structure LoopF (bs:List BlockM) (o:List Nat) (D L:Nat → Nat → Bool):Prop where
 dom:∀ a b,D a b=true ↔ OverP bs o a b
 inL:∀ h b,L h b=true ↔ InL bs o h b
theorem loopF_exists (bs:List BlockM) (o:List Nat):∃ D L,LoopF bs o D L:=by
 have hb:∀ p:Prop,∃ r:Bool,r=true ↔ p:=fun p => by
  by_cases h:p
  ·exact ⟨true,by simp [h]⟩
  ·exact ⟨false,by simp [h]⟩
 exact ⟨fun a b => Classical.choose (hb (OverP bs o a b)),fun h b => Classical.choose (hb (InL bs o h b)),fun a b => Classical.choose_spec (hb (OverP bs o a b)),fun h b => Classical.choose_spec (hb (InL bs o h b))⟩
def latchesM (bs:List BlockM) (D:Nat → Nat → Bool) (h:Nat):List Nat:=(predsTo bs bs.length h).filter (D h)
def blocksM (n:Nat) (L:Nat → Nat → Bool) (h:Nat):List Nat:=(List.range n).filter (L h)
def outB (bs:List BlockM) (L:Nat → Nat → Bool) (h t:Nat):Bool:=(List.range bs.length).any fun b => L h b && decide (t ∈ succM bs b)
def exitsM (bs:List BlockM) (L:Nat → Nat → Bool) (h:Nat):List Nat:=(List.range bs.length).filter fun t => !L h t && outB bs L h t
def headsM (bs:List BlockM) (D:Nat → Nat → Bool) (k:Nat):List Nat:=(List.range k).filter fun h => !(latchesM bs D h).isEmpty
def lsizeM (n:Nat) (L:Nat → Nat → Bool) (h:Nat):Nat:=(blocksM n L h).length
def aroundM (n:Nat) (L:Nat → Nat → Bool) (hs:List Nat) (i:Nat):Nat → Int
 | 0 => -1
 | k + 1 =>
  let a:=aroundM n L hs i k
  if k ≠ i ∧ L (hs.getD k 0) (hs.getD i 0)=true ∧ (a=-1 ∨ lsizeM n L (hs.getD k 0) < lsizeM n L (hs.getD a.toNat 0)) then (k:Int) else a
def depthM (L:Nat → Nat → Bool) (hs:List Nat) (b:Nat):Nat:=(hs.filter fun h => L h b).length
def oddB (bs:List BlockM) (D:Nat → Nat → Bool) (pl:Nat → Nat) (b:Nat):Bool:=(predsTo bs bs.length b).any fun p => decide (pl b ≤ pl p) && !D b p
def oddsM (bs:List BlockM) (D:Nat → Nat → Bool) (pl:Nat → Nat):List Nat:=(List.range bs.length).filter (oddB bs D pl)
theorem mem_predsTo {bs:List BlockM} {t p:Nat}:p ∈ predsTo bs bs.length t ↔ t ∈ succM bs p:=by
 unfold predsTo
 rw [List.mem_filter,List.mem_range,decide_eq_true_iff]
 exact ⟨fun h => h.2,fun h => ⟨lsucc_lt h,h⟩⟩
section
variable {bs:List BlockM} {o:List Nat} {D L:Nat → Nat → Bool} {h k b p:Nat}
theorem LoopF.mem_latches (F:LoopF bs o D L):p ∈ latchesM bs D h ↔ BackP bs o h p:=by
 unfold latchesM
 rw [List.mem_filter,mem_predsTo,F.dom]
 exact Iff.rfl
theorem LoopF.lt (F:LoopF bs o D L) (hh:h < bs.length) (hb:L h b=true):b < bs.length:=by
 cases (F.inL h b).1 hb with
 | head => exact hh
 | latch k => exact lsucc_lt k.1
 | step _ _ e => exact lsucc_lt e
theorem LoopF.mem_blocks (F:LoopF bs o D L) (hh:h < bs.length):b ∈ blocksM bs.length L h ↔ InL bs o h b:=by
 unfold blocksM
 rw [List.mem_filter,List.mem_range]
 exact ⟨fun x => (F.inL h b).1 x.2,fun x => ⟨F.lt hh ((F.inL h b).2 x),(F.inL h b).2 x⟩⟩
theorem mem_heads {n:Nat}:h ∈ headsM bs D n ↔ h < n ∧ latchesM bs D h ≠ []:=by
 unfold headsM
 rw [List.mem_filter,List.mem_range]
 cases latchesM bs D h <;> simp
end
structure LoopOk (bs:List BlockM) (o:List Nat) (pl:Nat → Nat) (par:Nat → Option Nat) (D L:Nat → Nat → Bool):Prop where
 ord:Ord (succM bs) o pl
 done:Done (succM bs) o pl par
 all:AllIn bs o
 lt:∀ x ∈ o,x < bs.length
 n5:bs.length ≤ 512
 fn:LoopF bs o D L
section
variable {bs:List BlockM} {o:List Nat} {pl:Nat → Nat} {par:Nat → Option Nat} {D L:Nat → Nat → Bool} {h k b p:Nat}
theorem LoopOk.sub (K:LoopOk bs o pl par D L) (hh:h < bs.length) (hk:k < bs.length) (hne:h ≠ k) (l:L k h=true) (hb:L h b=true):L k b=true :=
 (K.fn.inL k b).2 (InL.sub K.ord K.done K.all (K.all h hh) (K.all k hk) hne ((K.fn.inL k h).1 l) ((K.fn.inL h b).1 hb))
theorem LoopOk.within (K:LoopOk bs o pl par D L) (hh:h < bs.length) (hk:k < bs.length) (hne:h ≠ k):(∀ b ∈ blocksM bs.length L h,b ∈ blocksM bs.length L k) ↔ L k h=true:=by
 constructor
 ·intro a
  exact (K.fn.inL k h).2 ((K.fn.mem_blocks hk).1 (a h ((K.fn.mem_blocks hh).2 .head)))
 ·intro l b hb
  rw [K.fn.mem_blocks hk,← K.fn.inL]
  exact K.sub hh hk hne l ((K.fn.inL h b).2 ((K.fn.mem_blocks hh).1 hb))
end
structure LWk (bs:List BlockM) (o:List Nat) (h:Nat) (S ws:List Nat):Prop where
 nodup:S.Nodup
 lt:∀ x ∈ S,x < bs.length
 head:h ∈ S
 sound:∀ x ∈ S,InL bs o h x
 ok:∀ x ∈ ws,InL bs o h x ∧ x < bs.length
 closed:∀ x ∈ S,x ≠ h → ∀ p,x ∈ succM bs p → p ∈ S ∨ p ∈ ws
 lat:∀ p,BackP bs o h p → p ∈ S ∨ p ∈ ws
section
variable {bs:List BlockM} {o:List Nat} {h b:Nat} {S ws:List Nat}
theorem LWk.start {D L:Nat → Nat → Bool} (F:LoopF bs o D L) (hh:h < bs.length):LWk bs o h [h] (latchesM bs D h):=by
 refine ⟨by simp,by simpa using hh,by simp,by simpa using InL.head,fun x hx => ?_,fun x hx hne => ?_,fun p hp => .inr (F.mem_latches.2 hp)⟩
 ·have:=F.mem_latches.1 hx
  exact ⟨.latch this,lsucc_lt this.1⟩
 ·rw [List.mem_singleton] at hx
  exact absurd hx hne
theorem LWk.skip (W:LWk bs o h S (ws ++ [b])) (hb:b ∈ S):LWk bs o h S ws:=by
 have key:∀ p,p ∈ S ∨ p ∈ ws ++ [b] → p ∈ S ∨ p ∈ ws:=by
  rintro p (h1 | h1)
  ·exact .inl h1
  ·rcases List.mem_append.1 h1 with h2 | h2
   ·exact .inr h2
   ·rw [List.mem_singleton] at h2
    subst h2
    exact .inl hb
 exact ⟨W.nodup,W.lt,W.head,W.sound,fun x hx => W.ok x (List.mem_append_left _ hx),fun x hx hne p hp => key p (W.closed x hx hne p hp),fun p hp => key p (W.lat p hp)⟩
theorem LWk.mark (W:LWk bs o h S (ws ++ [b])) (hb:b ∉ S):LWk bs o h (b :: S) (ws ++ predsTo bs bs.length b):=by
 have hbo:=W.ok b (by simp)
 have hne:b ≠ h:=fun e => hb (e ▸ W.head)
 have key:∀ p,p ∈ S ∨ p ∈ ws ++ [b] → p ∈ b :: S ∨ p ∈ ws ++ predsTo bs bs.length b:=by
  rintro p (h1 | h1)
  ·exact .inl (List.mem_cons_of_mem _ h1)
  ·rcases List.mem_append.1 h1 with h2 | h2
   ·exact .inr (List.mem_append_left _ h2)
   ·rw [List.mem_singleton] at h2
    subst h2
    exact .inl (List.mem_cons_self ..)
 refine ⟨List.nodup_cons.2 ⟨hb,W.nodup⟩,fun x hx => ?_,List.mem_cons_of_mem _ W.head,fun x hx => ?_,fun x hx => ?_,fun x hx hnx p hp => ?_,fun p hp => key p (W.lat p hp)⟩
 ·rcases List.mem_cons.1 hx with rfl | hx
  ·exact hbo.2
  ·exact W.lt x hx
 ·rcases List.mem_cons.1 hx with rfl | hx
  ·exact hbo.1
  ·exact W.sound x hx
 ·rcases List.mem_append.1 hx with hx | hx
  ·exact W.ok x (List.mem_append_left _ hx)
  ·exact ⟨.step hbo.1 hne (mem_predsTo.1 hx),predsTo_lt hx⟩
 ·rcases List.mem_cons.1 hx with rfl | hx
  ·exact .inr (List.mem_append_right _ (mem_predsTo.2 hp))
  ·exact key p (W.closed x hx hnx p hp)
theorem LWk.all (W:LWk bs o h S []) (x:Nat):x ∈ S ↔ InL bs o h x:=by
 refine ⟨W.sound x,fun m => ?_⟩
 induction m with
 | head => exact W.head
 | latch k => exact (W.lat _ k).resolve_right (by simp)
 | step _ hne e ih => exact (W.closed _ ih hne _ e).resolve_right (by simp)
end
end Go.Proofs.YtaehbgppfahdeaaGreat

namespace Go.Proofs.YtaehbgppfahdeaaGreat
open Go.RowKit Go.Maps
def plcs (n:Nat) (o:List Nat) (pl:Nat → Nat):List Value:=(List.range n).map fun b => .int .i64 (if b ∈ o then ((pl b:Nat):Int) else 0)
theorem plcs_none (n:Nat) (pl:Nat → Nat):plcs n [] pl=List.replicate n (.int .i64 0):=by
 unfold plcs
 apply List.ext_getElem?
 intro i
 by_cases hi:i < n
 ·rw [List.getElem?_map,List.getElem?_eq_getElem (by simpa using hi),List.getElem?_replicate,if_pos hi]
  simp
 ·rw [List.getElem?_eq_none (by simp;omega),List.getElem?_eq_none (by simp;omega)]
theorem plcs_set {n i x:Nat} {o:List Nat} {pl:Nat → Nat} (hx:o[i]?=some x) (hp:pl x=i):(plcs n (o.take i) pl).set x (.int .i64 (i:Int))=plcs n (o.take (i + 1)) pl:=by
 unfold plcs
 apply List.ext_getElem?
 intro j
 by_cases hj:j < n
 ·by_cases e:x=j
  ·subst e
   rw [List.getElem?_set_self (by simpa using hj),List.getElem?_map,List.getElem?_eq_getElem (by simpa using hj)]
   have:x ∈ o.take (i + 1):=by rw [List.take_add_one,hx];simp
   simp [this,hp]
  ·rw [List.getElem?_set_ne e,List.getElem?_map,List.getElem?_map,List.getElem?_eq_getElem (by simpa using hj)]
   have:j ∈ o.take (i + 1) ↔ j ∈ o.take i:=by
    rw [List.take_add_one,hx]
    simp only [Option.toList_some,List.mem_append,List.mem_singleton]
    exact ⟨fun h => h.resolve_right (fun h2 => e h2.symm),.inl⟩
   simp [this]
 ·rw [List.getElem?_eq_none (by simp;omega),List.getElem?_eq_none (by simp;omega)]
theorem plcs_at {n b:Nat} {o:List Nat} {pl:Nat → Nat} (h:b < n) (ho:b ∈ o):(plcs n o pl)[b]?=some (.int .i64 ((pl b:Nat):Int)):=by
 unfold plcs
 rw [List.getElem?_map,List.getElem?_eq_getElem (by simpa using h)]
 simp [ho]
theorem plcs_any {n b:Nat} {o:List Nat} {pl:Nat → Nat} (h:b < n):(plcs n o pl)[b]?=some (.int .i64 (if b ∈ o then ((pl b:Nat):Int) else 0)):=by
 unfold plcs
 rw [List.getElem?_map,List.getElem?_eq_getElem (by simpa using h)]
 simp
structure LfAt (w:World) (lo:Nat) (bs:List BlockM) (o:List Nat) (pl:Nat → Nat) (par:Nat → Option Nat) (gp:Nat) (vs:List Value) (gi gl:Nat):Prop where
 preds:Lists w lo gp bs.length vs (predsAt bs bs.length bs.length 0)
 idoms:w.ownsRow lo 3 1 (.slice (some ⟨gi,0,none⟩) bs.length bs.length) bs.length (tops bs.length par)
 place:w.ownsRow lo 3 1 (.slice (some ⟨gl,0,none⟩) bs.length bs.length) bs.length (plcs bs.length o pl)
section
variable {w w':World} {lo lo':Nat} {bs:List BlockM} {o:List Nat} {pl:Nat → Nat} {par:Nat → Option Nat} {gp:Nat} {vs:List Value} {gi gl:Nat}
theorem LfAt.kept (h:LfAt w lo bs o pl par gp vs gi gl) (hb:Below w.heap.size w w'):LfAt w' lo bs o pl par gp vs gi gl :=
 ⟨h.preds.kept hb,own_kept_below h.idoms hb (fun k hk => (h.idoms.lt k hk).2),own_kept_below h.place hb (fun k hk => (h.place.lt k hk).2)⟩
theorem LfAt.mono (h:LfAt w lo bs o pl par gp vs gi gl) (hl:lo' ≤ lo):LfAt w lo' bs o pl par gp vs gi gl :=
 ⟨h.preds.mono hl,World.ownsRow.mono h.idoms hl,World.ownsRow.mono h.place hl⟩
theorem Lists.other {w:World} {base gb n:Nat} {ls:List (List Nat)} {j off:Nat} (h:Lists w base gb n vs ls) (hj:j < base) (u:Value):Lists (w.setCell ⟨j,off,none⟩ u) base gb n vs ls:=by
 have hl:=h.lt
 refine ⟨h.vl,h.ll,ownsRow_setCell_other h.row (a:=⟨j,off,none⟩) (by intro e;cases e;omega) u,fun t v l hv hl2 => ?_,h.apart⟩
 exact ownsRow_setCell_other (h.own t v l hv hl2) (a:=⟨j,off,none⟩) (by intro e;have:=((h.own t v l hv hl2).lt j e).1;omega) u
theorem LfAt.other {j off:Nat} (h:LfAt w lo bs o pl par gp vs gi gl) (hj:j < lo) (u:Value):LfAt (w.setCell ⟨j,off,none⟩ u) lo bs o pl par gp vs gi gl:=by
 have h1:=(h.idoms.lt gi rfl).1
 have h2:=(h.place.lt gl rfl).1
 exact ⟨h.preds.other hj u,ownsRow_setCell_other h.idoms (a:=⟨j,off,none⟩) (by intro e;cases e;omega) u,ownsRow_setCell_other h.place (a:=⟨j,off,none⟩) (by intro e;cases e;omega) u⟩
theorem LfAt.top (h:LfAt w lo bs o pl par gp vs gi gl) {b:Nat} (hb:b < bs.length):w.cell? ⟨gi,b,none⟩=some (.int .i64 (topI (par b))):=by
 rw [World.ownsRow.cellAt h.idoms b (by omega)];exact tops_at hb
theorem LfAt.at (h:LfAt w lo bs o pl par gp vs gi gl) {b:Nat} (hb:b < bs.length) (ho:b ∈ o):w.cell? ⟨gl,b,none⟩=some (.int .i64 ((pl b:Nat):Int)):=by
 rw [World.ownsRow.cellAt h.place b (by omega)];exact plcs_at hb ho
theorem LfAt.list (h:LfAt w lo bs o pl par gp vs gi gl) {b:Nat} (hb:b < bs.length):∃ v,w.cell? ⟨gp,b,none⟩=some v ∧ w.ownsRow lo 3 1 v (predsTo bs bs.length b).length (natInts (predsTo bs bs.length b)):=by
 obtain ⟨v,hv⟩:∃ v,vs[b]?=some v:=⟨_,List.getElem?_eq_getElem (by rw [h.preds.vl];exact hb)⟩
 have hl:(predsAt bs bs.length bs.length 0)[b]?=some (predsTo bs bs.length b):=by rw [predsAt_at hb];simp
 exact ⟨v,by rw [World.ownsRow.cellAt h.preds.row b (by omega)];exact hv,World.ownsRow.mono (h.preds.own b v _ hv hl) (by have:=h.preds.lt;omega)⟩
theorem LfAt.lt (h:LfAt w lo bs o pl par gp vs gi gl):(lo ≤ gp ∧ gp < w.heap.size) ∧ (lo ≤ gi ∧ gi < w.heap.size) ∧ (lo ≤ gl ∧ gl < w.heap.size):=⟨h.preds.lt,h.idoms.lt gi rfl,h.place.lt gl rfl⟩
end
end Go.Proofs.YtaehbgppfahdeaaGreat

namespace Go.Proofs.YtaehbgppfahdeaaGreat
open Go.RowKit Go.Maps
theorem dom_up {bs:List BlockM} {o:List Nat} {pl:Nat → Nat} {par:Nat → Option Nat} {D L:Nat → Nat → Bool} (K:LoopOk bs o pl par D L) {a b c:Nat} (_ha:a < bs.length) (hb:b < bs.length) (h1:Anc par c b) (h2:Anc par a b ↔ Anc par a c) (h3:¬ pl a < pl c):D a b=((a:Int) == (c:Int)):=by
 have hbo:=K.all b hb
 have hco:c ∈ o:=K.done.tree.anc_mem K.ord h1 (K.done.grown b hbo)
 have key:D a b=true ↔ a=c:=by
  rw [K.fn.dom,over_anc K.ord K.done hbo,h2]
  constructor
  ·intro h
   rcases K.done.tree.anc_pl h with e | ⟨e,_⟩
   ·exact e
   ·exact absurd e h3
  ·rintro rfl;exact .refl
 cases hd:D a b with
 | true => have:=key.1 hd;subst this;simp
 | false =>
  symm
  rw [beq_eq_false_iff_ne]
  intro e
  have:=key.2 (by omega)
  rw [hd] at this
  cases this
set_option maxRecDepth 100000 in
set_option maxHeartbeats 2000000 in
theorem lDom_any (bs:List BlockM) (o:List Nat) (pl:Nat → Nat) (par:Nat → Option Nat) (D L:Nat → Nat → Bool) (lo gp gi gl a b:Nat) (vs:List Value) (p0 p1 p2 p3:Value) (w:World) (K:LoopOk bs o pl par D L) (H:LfAt w lo bs o pl par gp vs gi gl) (ha:a < bs.length) (hb:b < bs.length) :
  Calls Tryz.prog 233 #[.agg #[p0,p1,p2,p3,.slice (some ⟨gp,0,none⟩) bs.length bs.length,.slice (some ⟨gi,0,none⟩) bs.length bs.length,.slice (some ⟨gl,0,none⟩) bs.length bs.length],.int .i64 a,.int .i64 b] w fun e w' => e=.returned (.bool (D a b)) ∧ Below w.heap.size w w':=by
 have HK:=hideI K
 obtain ⟨W,hW⟩:∃ W:World,W=w.alloc (.cells #[p0,p1,p2,p3,.slice (some ⟨gp,0,none⟩) bs.length bs.length,.slice (some ⟨gi,0,none⟩) bs.length bs.length,.slice (some ⟨gl,0,none⟩) bs.length bs.length] 246):=⟨_,rfl⟩
 have HBW:Hid (Below w.heap.size w W):=by show Below _ _ _;rw [hW];exact (Below.refl _ _).alloc (Nat.le_refl _) _
 have HXW:Hid (W.heap[w.heap.size]?=some (.cells #[p0,p1,p2,p3,.slice (some ⟨gp,0,none⟩) bs.length bs.length,.slice (some ⟨gi,0,none⟩) bs.length bs.length,.slice (some ⟨gl,0,none⟩) bs.length bs.length] 246 (0,0))):=by show _=_;rw [hW];exact heap_alloc_new w _
 have HLW:=hideI (H.kept HBW.out)
 have HW0:=hideI hW
 have hx:=row_cells HXW.out rfl
 have q5:=hx 5
 have q6:=hx 6
 have ca:=HLW.out.at ha (K.all a ha)
 obtain ⟨pa,hpa⟩:∃ pa,pa=pl a:=⟨_,rfl⟩
 rw [← hpa] at ca
 have HPA:=hideI hpa
 clear K H hW hx hpa
 go_enter Tryz.func233,Tryz.ntmps233
 go_upto_region 1 with fail
 rw [← HW0.out]
 go_loopw [2] (fun u wr => ∃ c m:Nat,u=.int .i64 c ∧ Hid (Anc par c b ∧ (Anc par a b ↔ Anc par a c)) ∧ wr=W.drewN m) (fun u _ => pl (intOf u).toNat)
 case atStart => exact ⟨b,0,rfl,hideI ⟨.refl,Iff.rfl⟩,rfl⟩
 case round =>
  obtain ⟨c,m,rfl,HC,rfl⟩:=hrel
  have hco:c ∈ o:=HK.out.done.tree.anc_mem HK.out.ord HC.out.1 (HK.out.done.grown b (HK.out.all b hb))
  have hcl:=HK.out.lt c hco
  have cc:=HLW.out.at hcl hco
  have ct:=HLW.out.top hcl
  obtain ⟨pc,hpc⟩:∃ pc,pc=pl c:=⟨_,rfl⟩
  rw [← hpc] at cc
  by_cases hlt:pa < pc
  ·obtain ⟨d,hd⟩:∃ d,par c=some d:=by
    rcases HK.out.done.grown c hco with e | e
    ·subst e
     rw [HK.out.ord.pl_zero] at hpc
     omega
    ·exact e
   rw [hd] at ct
   simp only [topI] at ct
   have HD:=hideI hd
   have HPC:=hideI hpc
   clear hd hpc hco
   go_wp2_with fail
   go_quiet (fail)
   go_wp2
   go_roundw
   case rel =>
    refine ⟨d,_,rfl,hideI ⟨(Anc.up HD.out .refl:Anc par d c).trans HC.out.1,HC.out.2.trans ⟨fun h => ?_,fun h => .up HD.out h⟩⟩,rfl⟩
    rcases h.step HD.out with e | e
    ·subst e
     have:=HPA.out
     have:=HPC.out
     omega
    ·exact e
   case measure =>
    have h1:=(HK.out.done.tree.up c d HD.out).2.2.1
    simpa [intOf] using h1
  ·have HR:=hideI (dom_up HK.out ha hb HC.out.1 HC.out.2 (by rw [← HPA.out,← hpc];exact hlt))
   clear hpc hco ct
   go_wp2_with fail
   go_quiet (fail)
   go_wp2
   go_ret
   exact ⟨by rw [HR.out];rfl,drew_below HBW.out _⟩
end Go.Proofs.YtaehbgppfahdeaaGreat

namespace Go.Proofs.YtaehbgppfahdeaaGreat
open Go.RowKit Go.Maps
def RowPost (l:List Nat) (w:World) (e:Ending) (w':World):Prop :=
 ∃ v,e=.returned v ∧ w'.ownsRow w.heap.size 3 1 v l.length (natInts l) ∧ Below w.heap.size w w'
theorem filter_skip {P:Nat → Bool} {l:List Nat} {i p:Nat} (hp:l[i]?=some p) (h:P p=false):(l.take (i + 1)).filter P=(l.take i).filter P:=by
 rw [List.take_add_one,hp,List.filter_append]
 simp [h]
theorem filter_more {P:Nat → Bool} {l:List Nat} {i p:Nat} (hp:l[i]?=some p) (h:P p=true):(l.take (i + 1)).filter P=(l.take i).filter P ++ [p]:=by
 rw [List.take_add_one,hp,List.filter_append]
 simp [h]
theorem filter_len {P:Nat → Bool} {l:List Nat} {i:Nat}:((l.take i).filter P).length ≤ l.length:=by
 have h1:=List.length_filter_le P (l.take i)
 have h2:=List.length_take_le i l
 have h3:(l.take i).length ≤ l.length:=by rw [List.length_take];omega
 omega
theorem natInts_snoc (l:List Nat) (x:Nat):natInts (l ++ [x])=natInts l ++ [.int .i64 (x:Int)]:=by
 unfold natInts
 rw [List.map_append]
 rfl
set_option maxRecDepth 100000 in
set_option maxHeartbeats 2000000 in
theorem lLatch_any (bs:List BlockM) (o:List Nat) (pl:Nat → Nat) (par:Nat → Option Nat) (D L:Nat → Nat → Bool) (lo gp gi gl h:Nat) (vs:List Value) (p0 p1 p2 p3:Value) (w:World) (K:LoopOk bs o pl par D L) (H:LfAt w lo bs o pl par gp vs gi gl) (hh:h < bs.length) :
  Calls Tryz.prog 210 #[.agg #[p0,p1,p2,p3,.slice (some ⟨gp,0,none⟩) bs.length bs.length,.slice (some ⟨gi,0,none⟩) bs.length bs.length,.slice (some ⟨gl,0,none⟩) bs.length bs.length],.int .i64 h] w (RowPost (latchesM bs D h) w):=by
 have HK:=hideI K
 have hn5:=K.n5
 obtain ⟨W,hW⟩:∃ W:World,W=w.alloc (.cells #[p0,p1,p2,p3,.slice (some ⟨gp,0,none⟩) bs.length bs.length,.slice (some ⟨gi,0,none⟩) bs.length bs.length,.slice (some ⟨gl,0,none⟩) bs.length bs.length] 246):=⟨_,rfl⟩
 have HBW:Hid (Below w.heap.size w W):=by show Below _ _ _;rw [hW];exact (Below.refl _ _).alloc (Nat.le_refl _) _
 have HXW:Hid (W.heap[w.heap.size]?=some (.cells #[p0,p1,p2,p3,.slice (some ⟨gp,0,none⟩) bs.length bs.length,.slice (some ⟨gi,0,none⟩) bs.length bs.length,.slice (some ⟨gl,0,none⟩) bs.length bs.length] 246 (0,0))):=by show _=_;rw [hW];exact heap_alloc_new w _
 have hwW:w.heap.size < W.heap.size:=lt_of_heap HXW.out
 have HLW:=hideI (H.kept HBW.out)
 have HW0:=hideI hW
 obtain ⟨v,hc0,hown⟩:=HLW.out.list hh
 obtain ⟨l,hl⟩:∃ l,l=predsTo bs bs.length h:=⟨_,rfl⟩
 have HL:Hid (latchesM bs D h=l.filter (D h)):=by show _=_;rw [hl];rfl
 have HLB:Hid (∀ x ∈ l,x < bs.length):=fun x hx => by rw [hl] at hx;exact predsTo_lt hx
 rw [← hl] at hown
 have hll:l.length ≤ 512:=by rw [hl];exact Nat.le_trans (predsTo_len _ _ _) hn5
 obtain ⟨PA,pc2,e1,_,hpx⟩:=nat_ints hown (by omega)
 rw [List.length_map] at e1 hpx
 subst e1
 have HPX:=hideI hpx
 obtain ⟨i1,hjx,hy0,hy1,hy2⟩:=info_parts int_info
 have hx:=row_cells HXW.out rfl
 have q4:=hx 4
 clear K H hW hx hown hl hpx
 go_enter Tryz.func210,Tryz.ntmps210
 go_upto_region 1 with fail
 rw [← HW0.out]
 go_wp2
 clear q4 hc0
 go_loopw [5,14] (fun vo u wr => ∃ (i:Nat) (v:Value),v=vo ∧ i ≤ l.length ∧ u=.int .i64 i ∧ Hid (wr.ownsRow W.heap.size 3 1 v ((l.take i).filter (D h)).length (natInts ((l.take i).filter (D h)))) ∧ Hid (Below W.heap.size W wr)) (fun _ u _ => l.length - (intOf u).toNat)
 case atStart => exact ⟨0,_,rfl,Nat.zero_le _,rfl,hideI (World.ownsRow_nil _ _ _ _),hideI (Below.refl _ _)⟩
 case round =>
  obtain ⟨i,v,rfl,hi,rfl,HO,HBr⟩:=hrel
  by_cases hlt:i < l.length
  ·obtain ⟨p,hp⟩:∃ p,l[i]?=some p:=⟨_,List.getElem?_eq_getElem hlt⟩
   have hpl:=HLB.out p (List.mem_of_getElem? hp)
   obtain ⟨pb,po,rfl,hpb,d0⟩:=HPX.out i hlt
   rw [List.getElem?_map,hp] at d0
   simp only [Option.map_some,Option.getD_some] at d0
   have d1:=(HBr.out.cell (p:=⟨pb,po + i,none⟩) hpb).trans d0
   have hx:=row_cells HXW.out (HBr.out.block _ hwW)
   have q0:=hx 0
   have q1:=hx 1
   have q2:=hx 2
   have q3:=hx 3
   have q4:=hx 4
   have q5:=hx 5
   have q6:=hx 6
   have HDM:=hideI (lDom_any bs o pl par D L lo gp gi gl h p vs p0 p1 p2 p3 wr HK.out (HLW.out.kept HBr.out) hh hpl)
   have HP:=hideI hp
   obtain ⟨m,hm⟩:∃ m,m=((l.take i).filter (D h)).length:=⟨_,rfl⟩
   obtain ⟨xs,hxs⟩:∃ xs,xs=(l.take i).filter (D h):=⟨_,rfl⟩
   have hml:m ≤ 512:=by rw [hm];exact Nat.le_trans filter_len hll
   have HXS:=hideI hxs
   have HM:=hideI hm
   cases hr:D h p with
   | false =>
    have HS:Hid ((l.take (i + 1)).filter (D h)=(l.take i).filter (D h)):=filter_skip hp hr
    rw [hr] at HDM
    clear hx hp d0 hr hxs hm
    go_wp2_with (go_at_call 233;go_must (refine HDM.out.mono ?_);rintro e w2 ⟨rfl,hb2⟩;have HO2:=hideI (own_kept_below HO.out hb2 (fun k hk => (HO.out.lt k hk).2));have HB2:=hideI (HBr.out.trans (hb2.mono HBr.out.size));clear hb2 q0 q1 q2 q3 q4 q5 q6 d1)
    go_roundw
    case rel => exact ⟨i + 1,_,rfl,by omega,by go_num,by rw [HS.out];exact HO2,HB2⟩
    case measure => simp [intOf];omega
   | true =>
    have HS:Hid ((l.take (i + 1)).filter (D h)=xs ++ [p]):=by show _=_;rw [hxs];exact filter_more hp hr
    rw [← hxs] at HO hm
    have hmx:xs.length=m:=hm.symm
    have H63:Hid (xs.length + 1 ≤ maxLen):=by show _ ≤ _;simp only [maxLen];omega
    have HBY:Hid ((xs.length + 1) * 8 ≤ 140737488355328):=by show _ ≤ _;omega
    have HMX:=hideI hmx
    rw [hr] at HDM
    clear hx hp d0 hr hxs hm hmx
    go_wp2_with (first
     | (go_at_call 233;go_must (refine HDM.out.mono ?_);rintro e w2 ⟨rfl,hb2⟩;have HO2:=hideI (own_kept_below HO.out hb2 (fun k hk => (HO.out.lt k hk).2));have HB2:=hideI (HBr.out.trans (hb2.mono HBr.out.size));have HBS:Hid (W.heap.size ≤ w2.heap.size):=HB2.out.size;clear hb2 q0 q1 q2 q3 q4 q5 q6 d1)
     | (at_builtin;go_must (refine wpList_append_lies _ rfl _ _ _ rfl W.heap.size 3 i1 (.int .i64 0) 1 8 Tryz.underlying22 hjx hy0 hy1 hy2 rfl (by decide) _ _ _ rfl (HO2.out.alloc _) ⟨w2.heap.size,0,none⟩ 1 1 [.int .i64 p] rfl rfl (one_new w2 _) (by simp [Value.oneCell']) (by decide) H63.out HBY.out (by simp;exact Nat.le_succ_of_le HBS.out) _ rfl ?_);intro g1 cap1 w3 hown1 hgrow1 hor1 _;go_must (have HO3:=hideI hown1;have HB3:Hid (Below W.heap.size W w3):=(HB2.out.alloc HB2.out.size _).grown hgrow1 (by simp;exact Nat.le_succ_of_le HBS.out) (fun k hk => (HO2.out.lt k hk).1);clear hown1 hgrow1 hor1)))
    go_roundw
    case rel => exact ⟨i + 1,_,rfl,by omega,by go_num,by rw [HS.out,List.length_append,natInts_snoc];exact HO3,HB3⟩
    case measure => simp [intOf];omega
  ·have HE:Hid ((l.take i).filter (D h)=latchesM bs D h):=by show _=_;rw [HL.out,List.take_of_length_le (by omega)]
   rw [HE.out] at HO
   go_wp2
   go_ret
   exact ⟨_,rfl,World.ownsRow.mono HO.out (Nat.le_of_lt hwW),HBW.out.trans (HBr.out.mono (Nat.le_of_lt hwW))⟩
end Go.Proofs.YtaehbgppfahdeaaGreat

namespace Go.Proofs.YtaehbgppfahdeaaGreat
open Go.RowKit Go.Maps
structure LpM where
 head:Nat
 blocks:List Nat
 latches:List Nat
 exits:List Nat
 parent:Int
theorem loop_info:(Tryz.prog.info? 88).map (fun i => (i.zero,i.size,i.bytes))=some (some (.agg #[.int .i64 0,.slice none 0 0,.slice none 0 0,.slice none 0 0,.int .i64 0]),5,88):=by kernel_rfl
def SubR (w:World) (base:Nat) (vr b:Value) (l:List Nat):Prop :=
 w.ownsRow base 3 1 b l.length (natInts l) ∧ ∀ k,b.ownBlock=some k → vr.ownBlock ≠ some k
structure LpAt (w:World) (base:Nat) (vr:Value) (cs:List Value) (i:Nat) (lp:LpM):Prop where
 ex:∃ b1 b2 b3:Value,cs[i * 5]?=some (.int .i64 (lp.head:Int)) ∧ cs[i * 5 + 1]?=some b1 ∧ cs[i * 5 + 2]?=some b2 ∧ cs[i * 5 + 3]?=some b3 ∧ cs[i * 5 + 4]?=some (.int .i64 lp.parent) ∧
  SubR w base vr b1 lp.blocks ∧ SubR w base vr b2 lp.latches ∧ SubR w base vr b3 lp.exits
structure LoopsR (w:World) (base:Nat) (v:Value) (ls:List LpM):Prop where
 ex:∃ cs:List Value,w.ownsRow base 88 5 v ls.length cs ∧ ∀ (i:Nat) lp,ls[i]?=some lp → LpAt w base v cs i lp
section
variable {w w' w1:World} {base base' B:Nat} {v vr b:Value} {l:List Nat} {ls:List LpM} {o:Obj}
theorem SubR.kept (h:SubR w base vr b l) (hb:Below w.heap.size w w'):SubR w' base vr b l :=
 ⟨own_kept_below h.1 hb (fun k hk => (h.1.lt k hk).2),h.2⟩
theorem SubR.mono (h:SubR w base vr b l) (hb:base' ≤ base):SubR w base' vr b l:=⟨World.ownsRow.mono h.1 hb,h.2⟩
theorem SubR.grow {g' n' cap':Nat} (h:SubR w base vr b l) (hg:(w.alloc o).grownBy w1 vr.ownBlock) (hor:vr.ownBlock=some g' ∨ g'=(w.alloc o).heap.size):SubR w1 base (.slice (some ⟨g',0,none⟩) n' cap') b l:=by
 refine ⟨(h.1.alloc o).kept hg ?_,fun k hk => ?_⟩
 ·cases e:b.ownBlock with
  | none => exact .inl rfl
  | some k => exact .inr (fun e2 => h.2 k e e2.symm)
 ·intro e
  have e1:g'=k:=by simpa [Value.ownBlock] using e
  subst e1
  rcases hor with h1 | h1
  ·exact h.2 g' hk h1
  ·have:=(h.1.lt g' hk).2
   simp at h1
   omega
theorem SubR.ints (h:SubR w base vr b l) (hl:l.length ≤ 100000):Ints w w.heap.size b (l.map fun (x:Nat) => (x:Int)):=nat_ints h.1 hl
theorem LpAt.map {cs:List Value} {i:Nat} {lp:LpM} {vr':Value} (h:LpAt w base vr cs i lp) (f:∀ b l,SubR w base vr b l → SubR w' base' vr' b l):LpAt w' base' vr' cs i lp:=by
 obtain ⟨b1,b2,b3,h0,h1,h2,h3,h4,s1,s2,s3⟩:=h.ex
 exact ⟨b1,b2,b3,h0,h1,h2,h3,h4,f _ _ s1,f _ _ s2,f _ _ s3⟩
theorem LoopsR.nil (w:World) (base:Nat):LoopsR w base (.slice none 0 0) []:=⟨[],World.ownsRow_nil _ _ _ _,fun i lp h => by simp at h⟩
theorem LoopsR.kept (h:LoopsR w base v ls) (hb:Below w.heap.size w w'):LoopsR w' base v ls:=by
 obtain ⟨cs,h1,h2⟩:=h.ex
 exact ⟨cs,own_kept_below h1 hb (fun k hk => (h1.lt k hk).2),fun i lp hi => (h2 i lp hi).map fun _ _ s => s.kept hb⟩
theorem LoopsR.mono (h:LoopsR w base v ls) (hb:base' ≤ base):LoopsR w base' v ls:=by
 obtain ⟨cs,h1,h2⟩:=h.ex
 exact ⟨cs,World.ownsRow.mono h1 hb,fun i lp hi => (h2 i lp hi).map fun _ _ s => s.mono hb⟩
theorem LoopsR.other {j off:Nat} (h:LoopsR w base v ls) (hj:j < base) (u:Value):LoopsR (w.setCell ⟨j,off,none⟩ u) base v ls:=by
 obtain ⟨cs,h1,h2⟩:=h.ex
 refine ⟨cs,ownsRow_setCell_other h1 (a:=⟨j,off,none⟩) (by intro e;have:=(h1.lt j e).1;omega) u,fun i lp hi => (h2 i lp hi).map fun b l s => ⟨ownsRow_setCell_other s.1 (a:=⟨j,off,none⟩) (by intro e;have:=(s.1.lt j e).1;omega) u,s.2⟩⟩
theorem LoopsR.push {cs:List Value} {lp:LpM} {b1 b2 b3:Value} {g' cap':Nat} (h1:w.ownsRow base 88 5 v ls.length cs) (h2:∀ (i:Nat) lp,ls[i]?=some lp → LpAt w base v cs i lp)
  (s1:SubR w base v b1 lp.blocks) (s2:SubR w base v b2 lp.latches) (s3:SubR w base v b3 lp.exits)
  (hown:w1.ownsRow base 88 5 (.slice (some ⟨g',0,none⟩) (ls.length + 1) cap') (ls.length + 1) (cs ++ [.int .i64 (lp.head:Int),b1,b2,b3,.int .i64 lp.parent])) (hg:(w.alloc o).grownBy w1 v.ownBlock) (hor:v.ownBlock=some g' ∨ g'=(w.alloc o).heap.size) :
  LoopsR w1 base (.slice (some ⟨g',0,none⟩) (ls.length + 1) cap') (ls ++ [lp]):=by
 have hl:cs.length=ls.length * 5:=h1.1
 refine ⟨cs ++ [.int .i64 (lp.head:Int),b1,b2,b3,.int .i64 lp.parent],by rw [List.length_append];exact hown,fun i lp' hi => ?_⟩
 by_cases hlt:i < ls.length
 ·rw [List.getElem?_append_left hlt] at hi
  obtain ⟨c1,c2,c3,k0,k1,k2,k3,k4,t1,t2,t3⟩:=(h2 i lp' hi).ex
  refine ⟨c1,c2,c3,?_,?_,?_,?_,?_,t1.grow hg hor,t2.grow hg hor,t3.grow hg hor⟩
  ·rw [List.getElem?_append_left (by omega)];exact k0
  ·rw [List.getElem?_append_left (by omega)];exact k1
  ·rw [List.getElem?_append_left (by omega)];exact k2
  ·rw [List.getElem?_append_left (by omega)];exact k3
  ·rw [List.getElem?_append_left (by omega)];exact k4
 ·rw [List.getElem?_append_right (by omega)] at hi
  have hi0:i=ls.length:=by
   have:=(List.getElem?_eq_some_iff.1 hi).1
   simp at this
   omega
  subst hi0
  simp at hi
  subst hi
  refine ⟨b1,b2,b3,?_,?_,?_,?_,?_,s1.grow hg hor,s2.grow hg hor,s3.grow hg hor⟩
  ·rw [List.getElem?_append_right (by omega),show ls.length * 5 - cs.length=0 by omega];rfl
  ·rw [List.getElem?_append_right (by omega),show ls.length * 5 + 1 - cs.length=1 by omega];rfl
  ·rw [List.getElem?_append_right (by omega),show ls.length * 5 + 2 - cs.length=2 by omega];rfl
  ·rw [List.getElem?_append_right (by omega),show ls.length * 5 + 3 - cs.length=3 by omega];rfl
  ·rw [List.getElem?_append_right (by omega),show ls.length * 5 + 4 - cs.length=4 by omega];rfl
theorem LoopsR.cells (h:LoopsR w base v ls) {i:Nat} {lp:LpM} (hi:ls[i]?=some lp):∃ (g cap:Nat) (b1 b2 b3:Value),v=.slice (some ⟨g,0,none⟩) ls.length cap ∧ base ≤ g ∧ g < w.heap.size ∧
  w.cell? ⟨g,i * 5,none⟩=some (.int .i64 (lp.head:Int)) ∧ w.cell? ⟨g,i * 5 + 1,none⟩=some b1 ∧ w.cell? ⟨g,i * 5 + 2,none⟩=some b2 ∧ w.cell? ⟨g,i * 5 + 3,none⟩=some b3 ∧ w.cell? ⟨g,i * 5 + 4,none⟩=some (.int .i64 lp.parent) ∧
  SubR w base v b1 lp.blocks ∧ SubR w base v b2 lp.latches ∧ SubR w base v b3 lp.exits ∧ ∀ o,w.frozen? ⟨g,o,none⟩=false:=by
 obtain ⟨cs,h1,h2⟩:=h.ex
 obtain ⟨b1,b2,b3,k0,k1,k2,k3,k4,s1,s2,s3⟩:=(h2 i lp hi).ex
 have hil:=(List.getElem?_eq_some_iff.1 hi).1
 obtain ⟨g,cap,rfl⟩:∃ g cap,v=.slice (some ⟨g,0,none⟩) ls.length cap:=by
  rcases h1.2 with ⟨_,e⟩ | ⟨g,cap,_,e,_⟩
  ·omega
  ·exact ⟨g,cap,e⟩
 have hg:=h1.lt g rfl
 refine ⟨g,cap,b1,b2,b3,rfl,hg.1,hg.2,?_,?_,?_,?_,?_,s1,s2,s3,fun o => World.ownsRow.frozenAt h1 o⟩
 ·rw [World.ownsRow.cellAt h1 _ (by omega)];exact k0
 ·rw [World.ownsRow.cellAt h1 _ (by omega)];exact k1
 ·rw [World.ownsRow.cellAt h1 _ (by omega)];exact k2
 ·rw [World.ownsRow.cellAt h1 _ (by omega)];exact k3
 ·rw [World.ownsRow.cellAt h1 _ (by omega)];exact k4
theorem LoopsR.free {g n cap:Nat} (h:LoopsR w base (.slice (some ⟨g,0,none⟩) n cap) ls) (i:Nat):w.frozen? ⟨g,i,none⟩=false:=by
 obtain ⟨cs,h1,_⟩:=h.ex
 rcases h1.2 with ⟨e,_⟩ | ⟨g1,cap1,cur,e,_,hg,_⟩
 ·cases e
 ·cases e
  exact free_rowN hg rfl i
theorem LoopsR.parent {g cap i:Nat} {lp:LpM} {p:Int} (h:LoopsR w base (.slice (some ⟨g,0,none⟩) ls.length cap) ls) (hi:ls[i]?=some lp):LoopsR (w.setCell ⟨g,i * 5 + 4,none⟩ (.int .i64 p)) base (.slice (some ⟨g,0,none⟩) ls.length cap) (ls.set i { lp with parent:=p }):=by
 obtain ⟨cs,h1,h2⟩:=h.ex
 have hil:=(List.getElem?_eq_some_iff.1 hi).1
 have hl:cs.length=ls.length * 5:=h1.1
 have key:∀ b l,SubR w base (.slice (some ⟨g,0,none⟩) ls.length cap) b l → SubR (w.setCell ⟨g,i * 5 + 4,none⟩ (.int .i64 p)) base (.slice (some ⟨g,0,none⟩) ls.length cap) b l:=fun b l s =>
  ⟨ownsRow_setCell_other s.1 (a:=⟨g,i * 5 + 4,none⟩) (by intro e;exact s.2 g e rfl) _,s.2⟩
 refine ⟨cs.set (i * 5 + 4) (.int .i64 p),by rw [List.length_set];exact (h1.stored (i * 5 + 4) _).1,fun j lp' hj => ?_⟩
 by_cases e:i=j
 ·subst e
  rw [List.getElem?_set_self hil] at hj
  cases hj
  obtain ⟨b1,b2,b3,k0,k1,k2,k3,k4,s1,s2,s3⟩:=(h2 i lp hi).ex
  refine ⟨b1,b2,b3,?_,?_,?_,?_,?_,key _ _ s1,key _ _ s2,key _ _ s3⟩
  ·rw [List.getElem?_set_ne (by omega)];exact k0
  ·rw [List.getElem?_set_ne (by omega)];exact k1
  ·rw [List.getElem?_set_ne (by omega)];exact k2
  ·rw [List.getElem?_set_ne (by omega)];exact k3
  ·rw [List.getElem?_set_self (by omega)]
 ·rw [List.getElem?_set_ne e] at hj
  obtain ⟨b1,b2,b3,k0,k1,k2,k3,k4,s1,s2,s3⟩:=(h2 j lp' hj).ex
  refine ⟨b1,b2,b3,?_,?_,?_,?_,?_,key _ _ s1,key _ _ s2,key _ _ s3⟩
  ·rw [List.getElem?_set_ne (by omega)];exact k0
  ·rw [List.getElem?_set_ne (by omega)];exact k1
  ·rw [List.getElem?_set_ne (by omega)];exact k2
  ·rw [List.getElem?_set_ne (by omega)];exact k3
  ·rw [List.getElem?_set_ne (by omega)];exact k4
end
end Go.Proofs.YtaehbgppfahdeaaGreat

namespace Go.Proofs.YtaehbgppfahdeaaGreat
open Go.RowKit Go.Maps
set_option maxRecDepth 100000 in
set_option maxHeartbeats 2000000 in
theorem idxNone_any (A:Option Addr) (c:Nat) (fv:Value) (w:World) :
  Calls Tryz.prog 40 #[.slice A 0 c,fv] w fun e w' => e=.returned (.int .i64 (-1)) ∧ w'=w:=by
 go_enter Tryz.func40,Tryz.ntmps40
 go_wp2
 go_loopg [5,8] 0 (fun gg _ s8 wr => s8=.int .i64 0 ∧ wr=w)
 case atStart => exact ⟨rfl,rfl⟩
 case round =>
  obtain ⟨rfl,rfl⟩:=hrel
  go_wp2
  go_ret
  exact ⟨rfl,rfl⟩
set_option maxRecDepth 100000 in
set_option maxHeartbeats 4000000 in
theorem partsNone_any (A:Option Addr) (c:Nat) (sv:Value) (b:Int) (w:World) :
  Calls Tryz.prog 137 #[sv,.int .i64 b,.slice A 0 c] w fun e w' => ∃ cl,e=.returned (.map (some w.heap.size)) ∧ w'.heap[w.heap.size]?=some (.map #[] cl) ∧ Below w.heap.size w w':=by
 have hmm:=@run_makeMap Tryz.prog
 go_enter Tryz.func137,Tryz.ntmps137
 go_wp2
 go_loopg [14] 0 (fun gg s8 wr => s8=.int .i64 0 ∧ wr=w.alloc (.map #[] 0))
 case atStart => exact ⟨rfl,rfl⟩
 case round =>
  obtain ⟨rfl,rfl⟩:=hrel
  go_wp2
  go_ret
  exact ⟨0,rfl,heap_alloc_new w _,(Below.refl _ w).alloc (Nat.le_refl _) _⟩
end Go.Proofs.YtaehbgppfahdeaaGreat
