/- What ClosedChecks rests on, part 23: RStrictC, OrderEx. -/
import Derived.Test.YtaehbgppfahdeaaGreatPkClosedChecks22

namespace Go.Proofs.YtaehbgppfahdeaaGreat
open Go.RowKit Go.Maps
theorem refStrict_any (f:FuncM) (B:Nat) (pv bv:Value) (w:World) (hpv:Ints w B pv f.params) (hbv:BlocksR w B bv f.blocks) (hB:B≤w.heap.size) (hid:∀ u∈usesM f,I64 u.1) (he:(lookM f).1=0→∃ o,OrderIs f.blocks o) :
  Calls Tryz.prog 17 #[.agg #[pv,.int .i64 f.arrays,.int .i64 f.cells,bv]] w fun e w'=>∃ x y:Int,e=.returned (.tuple #[.int .i64 x,.int .i64 y])∧CheckIs f (x,y)∧Below w.heap.size w w':=by
 by_cases h0:(lookM f).1=0
 ·obtain⟨o,ho⟩:=he h0
  refine(refStrict_yes f o B pv bv w hpv hbv hB hid h0 ho).mono ?_
  rintro e w' ⟨x,y,rfl,hf,hb⟩
  exact⟨x,y,rfl,.inr ⟨h0,o,ho,hf⟩,hb⟩
 ·refine(refStrict_no f B pv bv w hpv hbv hB h0).mono ?_
  rintro e w' ⟨rfl,hb⟩
  exact⟨0,_,rfl,.inl ⟨h0,rfl⟩,hb⟩
end Go.Proofs.YtaehbgppfahdeaaGreat

namespace Go.Proofs.YtaehbgppfahdeaaGreat
open Go.RowKit
theorem visit_exists {succ:Nat→List Nat} {n:Nat} (hs:∀ b,∀ t∈succ b,t<n):∀ (k:Nat) (l bg dn:List Nat),bg.Nodup→(∀ x∈bg,x<n)→(∀ x∈l,x<n)→n≤bg.length+k→∃ bg' dn',Visit succ l (bg,dn) (bg',dn'):=by
 intro k
 induction k with
 | zero =>
  intro l
  induction l with
  | nil => exact fun bg dn _ _ _ _ => ⟨bg,dn,.nil _⟩
  | cons t r ih =>
   intro bg dn h1 h2 h3 h4
   by_cases ht:t∈bg
   ·obtain⟨b,d,v⟩:=ih bg dn h1 h2 (fun x hx=>h3 x (List.mem_cons_of_mem _ hx)) h4
    exact⟨b,d,.skip ht v⟩
   ·have:=below_len n (t::bg) (List.nodup_cons.2 ⟨ht,h1⟩) (fun x hx=>by rcases List.mem_cons.1 hx with rfl|hx;exact h3 _ (List.mem_cons_self ..);exact h2 x hx)
    rw[List.length_cons]at this
    omega
 | succ k ihk =>
  intro l
  induction l with
  | nil => exact fun bg dn _ _ _ _ => ⟨bg,dn,.nil _⟩
  | cons t r ih =>
   intro bg dn h1 h2 h3 h4
   by_cases ht:t∈bg
   ·obtain⟨b,d,v⟩:=ih bg dn h1 h2 (fun x hx=>h3 x (List.mem_cons_of_mem _ hx)) h4
    exact⟨b,d,.skip ht v⟩
   ·have hb:∀ x∈t::bg,x<n:=fun x hx=>by rcases List.mem_cons.1 hx with rfl|hx;exact h3 _ (List.mem_cons_self ..);exact h2 x hx
    obtain⟨b1,d1,v1⟩:=ihk (succ t) (t::bg) dn (List.nodup_cons.2 ⟨ht,h1⟩) hb (hs t) (by rw[List.length_cons];omega)
    obtain⟨new,d⟩:=v1.did
    have hnew:∀ x∈new,x<n:=fun x hx=>by
     obtain⟨i,hi⟩:=List.getElem?_of_mem hx
     rcases d.from_ i x hi with h|⟨_,y,_,_,h⟩
     ·exact hs t x h
     ·exact hs y x h
    have hlen:=d.len
    simp only[List.length_cons]at hlen
    obtain⟨b2,d2,v2⟩:=ih b1 (d1++[t]) (d.keepsNodup (List.nodup_cons.2 ⟨ht,h1⟩)) (fun x hx=>by
     rcases(d.begun x).1 hx with h|h
     ·exact hb x h
     ·exact hnew x h) (fun x hx=>h3 x (List.mem_cons_of_mem _ hx)) (by omega)
    exact⟨b2,d2,.go ht v1 v2⟩
theorem order_exists {f:FuncM} (h0:(lookM f).1=0):∃ o,OrderIs f.blocks o:=by
 have hin:=look_ends h0
 have hnb:=(look_some_block h0).1
 have hs:∀ b,∀ t∈succM f.blocks b,t<f.blocks.length:=fun b t ht=>by
  unfold succM at ht
  split at ht
  ·rename_i q hq
   obtain⟨x,hx,rfl⟩:=List.mem_map.1 ht
   have:=hin q (List.mem_of_getElem? hq) x hx
   omega
  ·cases ht
 obtain⟨bg,dn,v⟩:=visit_exists hs f.blocks.length (succM f.blocks 0) [0] [] (by simp) (fun x hx=>by simp at hx;omega) (hs 0) (by omega)
 exact⟨_,bg,dn,v,rfl⟩
end Go.Proofs.YtaehbgppfahdeaaGreat
