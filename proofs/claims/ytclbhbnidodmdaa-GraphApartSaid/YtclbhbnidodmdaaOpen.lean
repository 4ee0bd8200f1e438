/- How a function that is handed in reads: from the form's reading to plain data. -/
import Derived.Test.YtclbhbnidodmdaaLaw
import Derived.Test.YtclbhbnidodmdaaReads
import Derived.Test.YtclbhbnidodmdaaSpec
import Derived.Deep.Slices
namespace Go.Proofs.Ytclbhbnidodmdaa
open Go.ChangeShapes Go.WideShapes Go.ChangeAt Go.RowKit Go.Deep

theorem list_choose {α : Type} {R : Nat → α → Prop} : ∀ n, (∀ k, k < n → ∃ a, R k a) → ∃ l : List α, l.length = n ∧ ∀ k a, l[k]? = some a → R k a := by
  intro n
  induction n with
  | zero => intro _; exact ⟨[], rfl, fun k a h => by simp at h⟩
  | succ n ih =>
    intro h
    obtain ⟨l, hl, hr⟩ := ih (fun k hk => h k (by omega))
    obtain ⟨a, ha⟩ := h n (by omega)
    refine ⟨l ++ [a], by simp [hl], fun k b hb => ?_⟩
    rw [List.getElem?_append] at hb
    split at hb
    · exact hr k b hb
    · rename_i hk
      have hk2 : k - l.length = 0 := by
        cases hc : k - l.length with
        | zero => rfl
        | succ m => rw [hc] at hb; simp at hb
      rw [hk2] at hb
      simp at hb
      subst hb
      rw [show k = n from by omega]
      exact ha

section
variable {H : Type} {enc : TypeId × Value → H} {w : World}

abbrev Rd (enc : TypeId × Value → H) (w : World) (fuel : Nat) (t : TypeId) (cs : List Value) (x : DataW H × List MemPlace) : Prop := DataW.trod enc Try.prog w 0 (fun _ => true) true fuel t cs = some x

/-- no part is longer than the form lets it be -/
def Sz (t : TypeId) (d : DataW H) : Prop := ∀ n ∈ d.weights Try.prog t, n ≤ reachBytes

theorem Sz.slice {t e : TypeId} {es sp : List (DataW H)} (h : Sz t (.slice es sp)) (hu : Try.prog.underlying t = some (.slice e)) : (es.length + sp.length) * Try.prog.bytesOf e ≤ reachBytes ∧ ∀ d ∈ es, Sz e d := by
  unfold Sz at h
  simp only [DataW.weights, hu] at h
  refine ⟨h _ (List.mem_cons_self ..), fun d hd n hn => h n (List.mem_cons_of_mem _ (List.mem_append_left _ ?_))⟩
  clear h
  induction es with
  | nil => cases hd
  | cons a es ih =>
    rw [DataW.weightsAll]
    rcases List.mem_cons.1 hd with rfl | hd
    · exact List.mem_append_left _ hn
    · exact List.mem_append_right _ (ih hd)

theorem Sz.agg {t : TypeId} {fs : Array Field} {ds : List (DataW H)} (h : Sz t (.agg ds)) (hu : Try.prog.underlying t = some (.struct fs)) {j : Nat} {f : Field} {d : DataW H} (hf : fs[j]? = some f) (hd : ds[j]? = some d) : Sz f.type d := by
  intro n hn
  unfold Sz at h
  simp only [DataW.weights, hu] at h
  exact h n (DataW.weights_mem_each (by simp [hf]) hd n hn)

theorem reach_small {a b k : Nat} (h : (a + b) * k ≤ reachBytes) (hk : 1 ≤ k) : a ≤ 140737488351232 := by
  have h1 : (a + b) * 1 ≤ (a + b) * k := Nat.mul_le_mul_left _ hk
  have h2 : reachBytes = 140737488351232 := rfl
  omega

theorem bytes3 : Try.prog.bytesOf 3 = 8 := by kernel_rfl
theorem bytes75 : Try.prog.bytesOf 92 = 64 := by kernel_rfl
theorem bytes49 : Try.prog.bytesOf 86 = 48 := by kernel_rfl
theorem bytes55 : Try.prog.bytesOf 54 = 96 := by kernel_rfl
theorem cells3 : Try.prog.cellsOf 3 = 1 := by kernel_rfl
theorem cells22 : Try.prog.cellsOf 22 = 1 := by kernel_rfl
theorem cells23 : Try.prog.cellsOf 23 = 1 := by kernel_rfl
theorem cells25 : Try.prog.cellsOf 25 = 4 := by kernel_rfl
theorem cells49 : Try.prog.cellsOf 86 = 4 := by kernel_rfl
theorem cells50 : Try.prog.cellsOf 52 = 1 := by kernel_rfl
theorem cells52 : Try.prog.cellsOf 50 = 4 := by kernel_rfl
theorem cells53 : Try.prog.cellsOf 51 = 1 := by kernel_rfl
theorem cells55 : Try.prog.cellsOf 54 = 6 := by kernel_rfl
theorem cells75 : Try.prog.cellsOf 92 = 4 := by kernel_rfl

theorem addr_of {a : Addr} {v : Value} (h : w.cell? (a.add 0) = some v) : ∃ b off, a = ⟨b, off, none⟩ ∧ b < w.heap.size := by
  obtain ⟨b, off, spot⟩ := a
  have h0 : (⟨b, off, spot⟩ : Addr).add 0 = ⟨b, off, spot⟩ := by simp [Addr.add]
  rw [h0] at h
  have hspot : spot = none := World.cell?_spot h
  exact ⟨b, off, by rw [hspot], World.block_lt_of_cell? w _ h⟩

/-- a list of numbers that is read -/
theorem rd_ints {fuel : Nat} {v : Value} {x : DataW H × List MemPlace} (h : Rd enc w fuel 22 [v] x) (hs : Sz 22 x.1) : ∃ xs, Ints w w.heap.size v xs ∧ ∀ n ∈ xs, I64 n := by
  rcases open_ints Try.underlying22 Try.underlying3 cells3 h with ⟨hv, _⟩ | ⟨a, len, cap, zs, hv, _, hl, hm, hz, hx, hc, hw⟩
  · injection hv with hv
    subst hv
    exact ⟨[], Ints.nil _ _, fun n hn => by cases hn⟩
  · injection hv with hv
    subst hv
    simp only [if_true] at hz
    have hlen : (zs.take len).length = len := by rw [List.length_take]; omega
    refine ⟨zs.take len, ⟨some a, cap, by rw [hlen], ?_, fun k hk => ?_⟩, fun n hn => hw n (List.mem_of_mem_take hn)⟩
    · rw [hlen]
      rw [hx] at hs
      have h1 := (hs.slice Try.underlying22).1
      simp only [lits, List.length_map] at h1
      have := reach_small h1 (by rw [bytes3]; omega)
      omega
    · rw [hlen] at hk
      have h1 := hc k (by omega)
      obtain ⟨b, off, rfl, hb⟩ := addr_of (hc 0 (by omega))
      refine ⟨b, off, rfl, hb, ?_⟩
      rw [← Go.WideShapes.add_plain, h1]
      congr 2
      rw [List.getElem?_take, if_pos hk]
      rfl
/-- the cells of the elements of a slice that is read -/
theorem rd_slice {t e : TypeId} (ht : Try.prog.underlying t = some (.slice e)) {c : Nat} (hc : Try.prog.cellsOf e = c) (hby : 1 ≤ Try.prog.bytesOf e) (hpos : 0 < c) {fuel : Nat} {v : Value} {x : DataW H × List MemPlace} (h : Rd enc w fuel t [v] x) (hs : Sz t x.1) :
    ∃ A n cap, v = .slice A n cap ∧ n ≤ 140737488351232 ∧ ∀ k, k < n → ∃ b off cs f y, A = some ⟨b, off, none⟩ ∧ b < w.heap.size ∧ cs.length = c ∧ (∀ j, j < c → w.cell? ⟨b, off + (k * c + j), none⟩ = cs[j]?) ∧ Rd enc w f e cs y ∧ Sz e y.1 := by
  rcases open_slice ht h with ⟨hv, _⟩ | ⟨a, len, cap, m, n, D, Pl, hv, _, hl, hm, hmm, hx, hi⟩
  · injection hv with hv
    subst hv
    exact ⟨none, 0, 0, rfl, by omega, fun k hk => by omega⟩
  · injection hv with hv
    subst hv
    simp only [if_true] at hmm
    rw [hx] at hs
    have h1 := hs.slice ht
    simp only [List.length_map, List.length_range] at h1
    refine ⟨some a, len, cap, rfl, by have := reach_small h1.1 hby; omega, fun k hk => ?_⟩
    obtain ⟨cs0, hcs0, _⟩ := hi 0 (by omega)
    obtain ⟨_, hl0, hat0⟩ := World.cells?_some hcs0
    rw [hc] at hl0 hat0
    have h00 := hat0 0 hpos
    obtain ⟨v0, hv0⟩ : ∃ v0, cs0[0]? = some v0 := ⟨_, List.getElem?_eq_getElem (by omega)⟩
    have h01 : w.cell? (a.add 0) = some v0 := by
      rw [hv0, Nat.zero_mul] at h00
      rw [← h00]
      rfl
    obtain ⟨b, off, rfl, hb⟩ := addr_of h01
    obtain ⟨cs, hcs, hr⟩ := hi k (by omega)
    obtain ⟨_, hlen, hat⟩ := World.cells?_some hcs
    rw [hc] at hlen hat
    refine ⟨b, off, cs, n, _, rfl, hb, hlen, fun j hj => ?_, hr, h1.2 _ (List.mem_map.2 ⟨k, List.mem_range.2 (by omega), rfl⟩)⟩
    rw [← hat j hj, Go.WideShapes.add_plain, Go.WideShapes.add_plain, Nat.add_assoc]

/-- a field of one cell of a struct that is read -/
theorem rd_field {t : TypeId} {fs : Array Field} (ht : Try.prog.underlying t = some (.struct fs)) {fuel : Nat} {cs : List Value} {x : DataW H × List MemPlace} (h : Rd enc w fuel t cs x) (hs : Sz t x.1) {j : Nat} {f : Field} (hf : fs[j]? = some f) :
    ∃ n y, Rd enc w n f.type ((cs.drop f.offset).take (Try.prog.cellsOf f.type)) y ∧ Sz f.type y.1 := by
  obtain ⟨ys, n, _, hx, _, hlen, hg⟩ := DataW.trod_struct ht h
  have h1 := hg j f hf
  have hj : j < ys.length := by rw [hlen]; exact (Array.getElem?_eq_some_iff.1 hf).1
  rw [List.getElem?_eq_getElem hj] at h1
  rw [hx] at hs
  exact ⟨n, ys[j], h1, hs.agg ht hf (by rw [List.getElem?_map, List.getElem?_eq_getElem hj]; rfl)⟩

theorem drop_take_one {cs : List Value} {j : Nat} {v : Value} (h : cs[j]? = some v) : (cs.drop j).take 1 = [v] := by
  obtain ⟨hj, rfl⟩ := List.getElem?_eq_some_iff.1 h
  rw [List.drop_eq_getElem_cons hj]
  rfl

theorem rd_field1 {t : TypeId} {fs : Array Field} (ht : Try.prog.underlying t = some (.struct fs)) {fuel : Nat} {cs : List Value} {x : DataW H × List MemPlace} (h : Rd enc w fuel t cs x) (hs : Sz t x.1) (j : Nat) {f : Field} (hf : fs[j]? = some f)
    (ft : TypeId) (h1 : f.type = ft) (off : Nat) (h2 : f.offset = off) (hc : Try.prog.cellsOf ft = 1) {v : Value} (hv : cs[off]? = some v) : ∃ n y, Rd enc w n ft [v] y ∧ Sz ft y.1 := by
  subst h1 h2
  obtain ⟨n, y, hr, hz⟩ := rd_field ht h hs hf
  rw [hc, drop_take_one hv] at hr
  exact ⟨n, y, hr, hz⟩

theorem rd_fieldT {t : TypeId} {fs : Array Field} (ht : Try.prog.underlying t = some (.struct fs)) {fuel : Nat} {cs : List Value} {x : DataW H × List MemPlace} (h : Rd enc w fuel t cs x) (hs : Sz t x.1) (j : Nat) {f : Field} (hf : fs[j]? = some f)
    (ft : TypeId) (h1 : f.type = ft) (off : Nat) (h2 : f.offset = off) {c : Nat} (hc : Try.prog.cellsOf ft = c) : ∃ n y, Rd enc w n ft ((cs.drop off).take c) y ∧ Sz ft y.1 := by
  subst h1 h2 hc
  exact rd_field ht h hs hf

theorem rd_int {fuel : Nat} {v : Value} {x : DataW H × List MemPlace} (h : Rd enc w fuel 3 [v] x) : ∃ n, v = .int .i64 n ∧ I64 n := by
  obtain ⟨n, hv, _, hw⟩ := DataW.trod_int Try.underlying3 h
  injection hv with hv
  exact ⟨n, hv, hw⟩

theorem four {cs : List Value} (h : cs.length = 4) : ∃ a b c d, cs = [a, b, c, d] := by
  match cs, h with
  | [a, b, c, d], _ => exact ⟨a, b, c, d, rfl⟩
theorem six {cs : List Value} (h : cs.length = 6) : ∃ a b c d e f, cs = [a, b, c, d, e, f] := by
  match cs, h with
  | [a, b, c, d, e, f], _ => exact ⟨a, b, c, d, e, f, rfl⟩

theorem rd_phis {fuel : Nat} {v : Value} {x : DataW H × List MemPlace} (h : Rd enc w fuel 51 [v] x) (hs : Sz 51 x.1) :
    ∃ ps, PhisR w w.heap.size v ps ∧ ∀ p ∈ ps, p.vals.length ≤ 140737488351232 ∧ ∀ n ∈ p.vals, I64 n := by
  obtain ⟨A, n, cap, rfl, hn, hk⟩ := rd_slice Try.underlying51 cells75 (by rw [bytes75]; omega) (by omega) h hs
  obtain ⟨ps, hl, hps⟩ := list_choose (α := PhiM) (R := fun k p => (∃ b off fv vv, A = some ⟨b, off, none⟩ ∧ b < w.heap.size ∧
    w.cell? ⟨b, off + k * 4, none⟩ = some (.int .i64 p.id) ∧ w.cell? ⟨b, off + k * 4 + 1, none⟩ = some (.int .i64 p.typ) ∧ w.cell? ⟨b, off + k * 4 + 2, none⟩ = some fv ∧ w.cell? ⟨b, off + k * 4 + 3, none⟩ = some vv ∧
    Ints w w.heap.size fv p.fr ∧ Ints w w.heap.size vv p.vals ∧ I64 p.id ∧ I64 p.typ) ∧ p.vals.length ≤ 140737488351232 ∧ ∀ n ∈ p.vals, I64 n) n (fun k hlt => by
      obtain ⟨b, off, cs, f, y, hA, hb, hlen, hc, hr, hz⟩ := hk k hlt
      obtain ⟨c0, c1, c2, c3, rfl⟩ := four hlen
      obtain ⟨n0, y0, r0, z0⟩ := rd_field1 Try.underlying92 hr hz 0 rfl 3 rfl 0 rfl cells3 rfl
      obtain ⟨n1, y1, r1, z1⟩ := rd_field1 Try.underlying92 hr hz 1 rfl 3 rfl 1 rfl cells3 rfl
      obtain ⟨n2, y2, r2, z2⟩ := rd_field1 Try.underlying92 hr hz 2 rfl 22 rfl 2 rfl cells22 rfl
      obtain ⟨n3, y3, r3, z3⟩ := rd_field1 Try.underlying92 hr hz 3 rfl 22 rfl 3 rfl cells22 rfl
      obtain ⟨id, rfl, hi⟩ := rd_int r0
      obtain ⟨ty, rfl, ht⟩ := rd_int r1
      obtain ⟨fr, hf, _⟩ := rd_ints r2 z2
      obtain ⟨va, hv, hvi⟩ := rd_ints r3 z3
      refine ⟨⟨id, ty, fr, va⟩, ⟨b, off, _, _, hA, hb, hc 0 (by omega), hc 1 (by omega), hc 2 (by omega), hc 3 (by omega), hf, hv, hi, ht⟩, ?_, hvi⟩
      obtain ⟨_, _, _, hm, _⟩ := hv
      exact hm)
  subst hl
  exact ⟨ps, ⟨A, cap, rfl, hn, fun k p hp => (hps k p hp).1⟩, fun p hp => by obtain ⟨k, hk⟩ := List.mem_iff_getElem?.1 hp; exact (hps k p hk).2⟩

theorem rd_code {fuel : Nat} {v : Value} {x : DataW H × List MemPlace} (h : Rd enc w fuel 52 [v] x) (hs : Sz 52 x.1) :
    ∃ xs, CodeR w w.heap.size v xs ∧ ∀ p ∈ xs, ∀ n ∈ p.args, I64 n := by
  obtain ⟨A, n, cap, rfl, hn, hk⟩ := rd_slice Try.underlying52 cells49 (by rw [bytes49]; omega) (by omega) h hs
  obtain ⟨ps, hl, hps⟩ := list_choose (α := InstrM) (R := fun k x => (∃ b off av, A = some ⟨b, off, none⟩ ∧ b < w.heap.size ∧
    w.cell? ⟨b, off + k * 4, none⟩ = some (.int .i64 x.op) ∧ w.cell? ⟨b, off + k * 4 + 1, none⟩ = some (.int .i64 x.id) ∧ w.cell? ⟨b, off + k * 4 + 2, none⟩ = some av ∧ w.cell? ⟨b, off + k * 4 + 3, none⟩ = some (.int .i64 x.n) ∧
    Ints w w.heap.size av x.args ∧ I64 x.op ∧ I64 x.id ∧ I64 x.n) ∧ ∀ n ∈ x.args, I64 n) n (fun k hlt => by
      obtain ⟨b, off, cs, f, y, hA, hb, hlen, hc, hr, hz⟩ := hk k hlt
      obtain ⟨c0, c1, c2, c3, rfl⟩ := four hlen
      obtain ⟨n0, y0, r0, z0⟩ := rd_field1 Try.underlying86 hr hz 0 rfl 3 rfl 0 rfl cells3 rfl
      obtain ⟨n1, y1, r1, z1⟩ := rd_field1 Try.underlying86 hr hz 1 rfl 3 rfl 1 rfl cells3 rfl
      obtain ⟨n2, y2, r2, z2⟩ := rd_field1 Try.underlying86 hr hz 2 rfl 22 rfl 2 rfl cells22 rfl
      obtain ⟨n3, y3, r3, z3⟩ := rd_field1 Try.underlying86 hr hz 3 rfl 3 rfl 3 rfl cells3 rfl
      obtain ⟨op, rfl, ho⟩ := rd_int r0
      obtain ⟨id, rfl, hi⟩ := rd_int r1
      obtain ⟨ar, hf, hfi⟩ := rd_ints r2 z2
      obtain ⟨nn, rfl, hnn⟩ := rd_int r3
      exact ⟨⟨op, id, ar, nn⟩, ⟨b, off, _, hA, hb, hc 0 (by omega), hc 1 (by omega), hc 2 (by omega), hc 3 (by omega), hf, ho, hi, hnn⟩, hfi⟩)
  subst hl
  exact ⟨ps, ⟨A, cap, rfl, hn, fun k p hp => (hps k p hp).1⟩, fun p hp => by obtain ⟨k, hk⟩ := List.mem_iff_getElem?.1 hp; exact (hps k p hk).2⟩

/-- what all numbers of a block are like -/
def BlockOk (q : BlockM) : Prop := (∀ p ∈ q.phis, p.vals.length ≤ 140737488351232 ∧ ∀ n ∈ p.vals, I64 n) ∧ (∀ p ∈ q.code, ∀ n ∈ p.args, I64 n) ∧ I64 q.term.val

theorem rd_blocks {fuel : Nat} {v : Value} {x : DataW H × List MemPlace} (h : Rd enc w fuel 23 [v] x) (hs : Sz 23 x.1) :
    ∃ bs, BlocksR w w.heap.size v bs ∧ ∀ q ∈ bs, BlockOk q := by
  obtain ⟨A, n, cap, rfl, hn, hk⟩ := rd_slice Try.underlying23 cells55 (by rw [bytes55]; omega) (by omega) h hs
  obtain ⟨ps, hl, hps⟩ := list_choose (α := BlockM) (R := fun k q => (∃ b off pv cv tv, A = some ⟨b, off, none⟩ ∧ b < w.heap.size ∧
    w.cell? ⟨b, off + k * 6, none⟩ = some pv ∧ w.cell? ⟨b, off + k * 6 + 1, none⟩ = some cv ∧ w.cell? ⟨b, off + k * 6 + 2, none⟩ = some (.int .i64 q.term.op) ∧ w.cell? ⟨b, off + k * 6 + 3, none⟩ = some (.int .i64 q.term.val) ∧
    w.cell? ⟨b, off + k * 6 + 4, none⟩ = some tv ∧ w.cell? ⟨b, off + k * 6 + 5, none⟩ = some (.int .i64 q.term.n) ∧
    PhisR w w.heap.size pv q.phis ∧ CodeR w w.heap.size cv q.code ∧ Ints w w.heap.size tv q.term.to ∧ I64 q.term.op ∧ I64 q.term.val ∧ I64 q.term.n) ∧ BlockOk q) n (fun k hlt => by
      obtain ⟨b, off, cs, f, y, hA, hb, hlen, hc, hr, hz⟩ := hk k hlt
      obtain ⟨c0, c1, c2, c3, c4, c5, rfl⟩ := six hlen
      obtain ⟨n0, y0, r0, z0⟩ := rd_field1 Try.underlying54 hr hz 0 rfl 51 rfl 0 rfl cells53 rfl
      obtain ⟨n1, y1, r1, z1⟩ := rd_field1 Try.underlying54 hr hz 1 rfl 52 rfl 1 rfl cells50 rfl
      obtain ⟨n2, y2, r2, z2⟩ := rd_fieldT Try.underlying54 hr hz 2 rfl 50 rfl 2 rfl cells52
      obtain ⟨m0, u0, q0, s0⟩ := rd_field1 Try.underlying50 r2 z2 0 rfl 3 rfl 0 rfl cells3 rfl
      obtain ⟨m1, u1, q1, s1⟩ := rd_field1 Try.underlying50 r2 z2 1 rfl 3 rfl 1 rfl cells3 rfl
      obtain ⟨m2, u2, q2, s2⟩ := rd_field1 Try.underlying50 r2 z2 2 rfl 22 rfl 2 rfl cells22 rfl
      obtain ⟨m3, u3, q3, s3⟩ := rd_field1 Try.underlying50 r2 z2 3 rfl 3 rfl 3 rfl cells3 rfl
      obtain ⟨phs, hph, hpo⟩ := rd_phis r0 z0
      obtain ⟨xs, hxs, hxo⟩ := rd_code r1 z1
      obtain ⟨op, rfl, ho⟩ := rd_int q0
      obtain ⟨va, rfl, hva⟩ := rd_int q1
      obtain ⟨to, hto, _⟩ := rd_ints q2 s2
      obtain ⟨nn, rfl, hnn⟩ := rd_int q3
      exact ⟨⟨phs, xs, ⟨op, va, to, nn⟩⟩, ⟨b, off, _, _, _, hA, hb, hc 0 (by omega), hc 1 (by omega), hc 2 (by omega), hc 3 (by omega), hc 4 (by omega), hc 5 (by omega), hph, hxs, hto, ho, hva, hnn⟩, hpo, hxo, hva⟩)
  subst hl
  exact ⟨ps, ⟨A, cap, rfl, hn, fun k p hp => (hps k p hp).1⟩, fun p hp => by obtain ⟨k, hk⟩ := List.mem_iff_getElem?.1 hp; exact (hps k p hk).2⟩

/-- a function that lies in memory as it was handed in -/
structure FnIn (w : World) (f : FuncM) (pv bv : Value) : Prop where
  par : Ints w w.heap.size pv f.params
  blk : BlocksR w w.heap.size bv f.blocks
  ok : ∀ q ∈ f.blocks, BlockOk q

theorem rd_func {fuel : Nat} {cs : List Value} {x : DataW H × List MemPlace} (h : Rd enc w fuel 25 cs x) (hs : Sz 25 x.1) :
    ∃ (f : FuncM) (pv bv : Value), cs = [pv, .int .i64 f.arrays, .int .i64 f.cells, bv] ∧ FnIn w f pv bv := by
  obtain ⟨ys, n, _, hx, hlen, _, hg⟩ := DataW.trod_struct Try.underlying25 h
  rw [cells25] at hlen
  obtain ⟨c0, c1, c2, c3, rfl⟩ := four hlen
  obtain ⟨n0, y0, r0, z0⟩ := rd_field1 Try.underlying25 h hs 0 rfl 22 rfl 0 rfl cells22 rfl
  obtain ⟨n1, y1, r1, z1⟩ := rd_field1 Try.underlying25 h hs 1 rfl 3 rfl 1 rfl cells3 rfl
  obtain ⟨n2, y2, r2, z2⟩ := rd_field1 Try.underlying25 h hs 2 rfl 3 rfl 2 rfl cells3 rfl
  obtain ⟨n3, y3, r3, z3⟩ := rd_field1 Try.underlying25 h hs 3 rfl 23 rfl 3 rfl cells23 rfl
  obtain ⟨ps, hps, _⟩ := rd_ints r0 z0
  obtain ⟨a, rfl, _⟩ := rd_int r1
  obtain ⟨c, rfl, _⟩ := rd_int r2
  obtain ⟨bs, hbs, hok⟩ := rd_blocks r3 z3
  exact ⟨⟨ps, a, c, bs⟩, c0, c3, rfl, hps, hbs, hok⟩
set_option maxRecDepth 100000 in
/-- the argument of type Func, opened -/
theorem open_func {ts : List TypeId} {ds : List (DataW H)} {base : Nat} {v : Value} {d : DataW H} {p : List MemPlace} (hok : Value.okWide Try.prog w .any base 25 v) (h : DataW.Trod enc Try.prog w 0 (fun _ => true) true 25 v d p)
    (hsz : (DataW.weightsEach Try.prog ts ds).all (· ≤ reachBytes) = true) {j : Nat} (ht : ts[j]? = some 25) (hd : ds[j]? = some d) :
    ∃ (f : FuncM) (pv bv : Value), v = .agg #[pv, .int .i64 f.arrays, .int .i64 f.cells, bv] ∧ FnIn w f pv bv := by
  obtain ⟨cs, rfl, _⟩ := okWide_struct Try.underlying25 hok
  obtain ⟨fuel, hf⟩ := h
  have hs : Sz 25 d := by
    intro n hn
    have h1 := List.all_eq_true.1 hsz n (DataW.weights_mem_each ht hd n hn)
    rw [decide_eq_true_eq] at h1
    exact h1
  obtain ⟨f, pv, bv, hcs, hF⟩ := rd_func (x := (d, p)) hf hs
  refine ⟨f, pv, bv, ?_, hF⟩
  congr 1
  have h2 : cs.toList = [pv, .int .i64 f.arrays, .int .i64 f.cells, bv] := hcs
  rw [← Array.toArray_toList (xs := cs), h2]
end

end Go.Proofs.Ytclbhbnidodmdaa
