/- How lists of numbers that are handed in read; the table of the trailing zeros out of the row's condition; cut. -/
import Derived.Test.YtfifbgpiekpepaaDoorChAwake
import Derived.Test.YtfifbgpiekpepaaDoorChTabOf
import Derived.Test.YtfifbgpiekpepaaDoorLaw
import Derived.Deep.Slices
import Derived.LaidLaws
import Derived.Lib.LaidTab
namespace Go.Proofs.YtfifbgpiekpepaaDoor.Chn
open Go.ChangeShapes Go.WideShapes Go.ChangeAt Go.RowKit Go.Deep

theorem list_pick {α : Type} {R : Nat → α → Prop} : ∀ n, (∀ k, k < n → ∃ a, R k a) → ∃ l : List α, l.length = n ∧ ∀ k a, l[k]? = some a → R k a := by
  intro n
  induction n with
  | zero => intro _; exact ⟨[], rfl, fun k a h => by simp at h⟩
  | succ n ih =>
    intro h
    obtain ⟨l, hl, hr⟩ := ih (fun k hk => h k (by omega))
    obtain ⟨a, ha⟩ := h n (by omega)
    refine ⟨l ++ [a], by simp [hl], fun k b hb => ?_⟩
    rcases Nat.lt_or_ge k l.length with hk | hk
    · rw [List.getElem?_append_left hk] at hb
      exact hr k b hb
    · rw [List.getElem?_append_right hk] at hb
      have hk2 : k - l.length = 0 := by
        cases hc : k - l.length with
        | zero => rfl
        | succ m => rw [hc] at hb; simp at hb
      rw [hk2] at hb
      injection hb with hb
      subst hb
      rw [show k = n by omega]
      exact ha

section
variable {H : Type} {enc : TypeId × Value → H} {w : World}

abbrev RdI (enc : TypeId × Value → H) (w : World) (fuel : Nat) (t : TypeId) (cs : List Value) (x : DataW H × List MemPlace) : Prop := DataW.trod enc Tryd.prog w 0 (fun _ => true) true fuel t cs = some x

/-- no part is longer than the form lets it be -/
def SzI (t : TypeId) (d : DataW H) : Prop := ∀ n ∈ d.weights Tryd.prog t, n ≤ reachBytes

theorem SzI.slice {t e : TypeId} {es sp : List (DataW H)} (h : SzI t (.slice es sp)) (hu : Tryd.prog.underlying t = some (.slice e)) : (es.length + sp.length) * Tryd.prog.bytesOf e ≤ reachBytes ∧ ∀ d ∈ es, SzI e d := by
  unfold SzI at h
  simp only [DataW.weights, hu] at h
  refine ⟨h _ (List.mem_cons_self ..), fun d hd n hn => h n (List.mem_cons_of_mem _ (List.mem_append_left _ ?_))⟩
  clear h
  induction es with
  | nil => cases hd
  | cons a es ih =>
    rw [DataW.weightsAll]
    rcases List.mem_cons.1 hd with rfl | hd
    · exact List.mem_append_left _ hn
    · exact List.mem_append_right _ (ih hd)

theorem bytesInt : Tryd.prog.bytesOf 3 = 8 := by kernel_rfl
theorem bytesInts : Tryd.prog.bytesOf 24 = 24 := by kernel_rfl
theorem cellsInt : Tryd.prog.cellsOf 3 = 1 := by kernel_rfl
theorem cellsInts : Tryd.prog.cellsOf 24 = 1 := by kernel_rfl

theorem addr_at {a : Addr} {v : Value} (h : w.cell? (a.add 0) = some v) : ∃ b off, a = ⟨b, off, none⟩ ∧ b < w.heap.size := by
  obtain ⟨b, off, spot⟩ := a
  have h0 : (⟨b, off, spot⟩ : Addr).add 0 = ⟨b, off, spot⟩ := by simp [Addr.add]
  rw [h0] at h
  have hspot : spot = none := World.cell?_spot h
  exact ⟨b, off, by rw [hspot], World.block_lt_of_cell? w _ h⟩

/-- a list of numbers as it was handed in -/
structure InL (w : World) (v : Value) (xs : List Int) : Prop where
  ci : CI w w.heap.size v xs
  held : ∀ x ∈ xs, In64 x
  room : xs.length * 8 ≤ 140737488351232

theorem wf_in {n : Int} (h : (Lit.int .i64 n).wf = true) : In64 n := by
  unfold In64
  simp [Lit.wf, IntKind.min, IntKind.max, IntKind.bits, IntKind.signed] at h
  omega

/-- a list of numbers that is read -/
theorem read_ints {fuel : Nat} {v : Value} {x : DataW H × List MemPlace} (h : RdI enc w fuel 24 [v] x) (hs : SzI 24 x.1) : ∃ xs, InL w v xs := by
  rcases open_ints Tryd.underlying24 Tryd.underlying3 cellsInt h with ⟨hv, _⟩ | ⟨a, len, cap, zs, hv, _, hl, hm, hz, hx, hc, hw⟩
  · injection hv with hv
    subst hv
    exact ⟨[], CI.nil _ _, (fun n hn => by cases hn), by simp⟩
  · injection hv with hv
    subst hv
    simp only [if_true] at hz
    have hlen : (zs.take len).length = len := by rw [List.length_take]; omega
    have h8 : len * 8 ≤ 140737488351232 := by
      rw [hx] at hs
      have h1 := (hs.slice Tryd.underlying24).1
      simp only [lits, List.length_map] at h1
      rw [bytesInt] at h1
      have h2 : reachBytes = 140737488351232 := rfl
      omega
    refine ⟨zs.take len, ⟨⟨some a, cap, by rw [hlen], by omega, fun k hk => ?_⟩, fun A n c e => by injection e with _ e1 e2; omega⟩, fun n hn => wf_in (hw n (List.mem_of_mem_take hn)), by omega⟩
    rw [hlen] at hk
    have h1 := hc k (by omega)
    obtain ⟨b, off, rfl, hb⟩ := addr_at (hc 0 (by omega))
    refine ⟨b, off, rfl, hb, ?_⟩
    rw [← Go.WideShapes.add_plain, h1]
    congr 2
    rw [List.getElem?_take, if_pos hk]
    rfl

set_option maxRecDepth 100000 in
/-- an argument that is a list of numbers -/
theorem arg_ints {ts : List TypeId} {ds : List (DataW H)} {base : Nat} {v : Value} {d : DataW H} {p : List MemPlace} (hok : Value.okWide Tryd.prog w .any base 24 v) (h : DataW.Trod enc Tryd.prog w 0 (fun _ => true) true 24 v d p)
    (hsz : (DataW.weightsEach Tryd.prog ts ds).all (· ≤ reachBytes) = true) {j : Nat} (ht : ts[j]? = some 24) (hd : ds[j]? = some d) : ∃ xs, InL w v xs := by
  obtain ⟨a0, len, cap, rfl⟩ := okWide_slice Tryd.underlying24 hok
  obtain ⟨fuel, hf⟩ := h
  have hs : SzI 24 d := by
    intro n hn
    have h1 := List.all_eq_true.1 hsz n (DataW.weights_mem_each ht hd n hn)
    rw [decide_eq_true_eq] at h1
    exact h1
  exact read_ints (x := (d, p)) hf hs
end

set_option maxRecDepth 100000 in
theorem cut_any (xs : List Int) (B m : Nat) (v : Value) (w : World) (hx : CI w B v xs) (hm : m < 1000) :
    Calls Tryd.prog 16 #[v, .int .i64 m] w fun e w' => ∃ A c, e = .returned (.slice A (xs.take m).length c) ∧ CI w B (.slice A (xs.take m).length c) (xs.take m) ∧ w' = w := by
  have HX := hideI hx
  obtain ⟨⟨A, c, rfl, _, _⟩, hcap⟩ := hx
  have hcn := hcap _ _ _ rfl
  clear hcap
  by_cases hl : m < xs.length
  · have HE : Hid ((xs.take m).length = m) := hideI (by rw [List.length_take]; omega)
    have HC : Hid (CI w B (.slice A m c) (xs.take m)) := hideI (HX.out.take (by omega) rfl)
    rw [HE.out]
    have hl2 : (m : Int) < (xs.length : Int) := by omega
    have hmc : (m : Int) ≤ (c : Int) := by omega
    obtain ⟨⟨A2, c2, e, _, hat⟩, _⟩ := HX.out
    injection e with e _ e2
    subst e e2
    obtain ⟨b, off, rfl, _, _⟩ := hat 0 (by omega)
    have hc0 : ¬ c = 0 := by omega
    clear hat
    go_enter Tryd.func16, Tryd.ntmps16
    go_wp2
    go_ret
    exact ⟨_, _, rfl, HC.out, rfl⟩
  · have HE : Hid (xs.take m = xs) := hideI (List.take_of_length_le (by omega))
    rw [HE.out]
    have hl2 : ¬ (m : Int) < (xs.length : Int) := by omega
    go_enter Tryd.func16, Tryd.ntmps16
    go_wp2
    go_ret
    exact ⟨_, _, rfl, HX.out, rfl⟩
end Go.Proofs.YtfifbgpiekpepaaDoor.Chn
