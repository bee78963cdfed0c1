/- Blocks that are arguments. -/
import Derived.Test.YtaejhppfcmeopaaLvH
import Derived.Test.YtaejhppfcmeopaaRows
import Derived.ProofKit
import Derived.OpenShut
import Derived.Deep.Slices
import Derived.Deep.Strs
import Derived.SizedLaws
namespace Go.Proofs.Ytaejhppfcmeopaa
open Go.ChangeShapes Go.WideShapes Go.ChangeAt Go.RowKit

theorem own : ownKnob Try.prog.godebug = none := by kernel_rfl
theorem laidOut : laidOutB Try.prog = true := by kernel_rfl
theorem sizes : Try.prog.cellsOf 41 = 3 ∧ Try.prog.cellsOf 34 = 1 ∧ Try.prog.cellsOf 3 = 1 ∧ Try.prog.bytesOf 3 = 8 := ⟨by kernel_rfl, by kernel_rfl, by kernel_rfl, by kernel_rfl⟩
theorem three_of {α : Type} {cs : List α} (h : cs.length = 3) : ∃ c0 c1 c2, cs = [c0, c1, c2] := by
  match cs, h with
  | [c0, c1, c2], _ => exact ⟨c0, c1, c2, rfl⟩
def Blk.z : Blk := ⟨[], [], []⟩
instance : Inhabited Blk := ⟨Blk.z⟩
section
variable {H : Type} {enc : TypeId × Value → H} {w : World}
theorem ints_of {fuel : Nat} {v : Value} {x : DataW H × List MemPlace} (h : DataW.trod enc Try.prog w 0 (fun _ => true) true fuel 34 [v] = some x) :
    ∃ l : List Int, IntsAt w v l ∧ ((∀ n ∈ x.1.weights Try.prog 34, n ≤ reachBytes) → l.length * 8 ≤ reachBytes) := by
  rcases Go.Deep.open_slice Try.underlying34 h with ⟨hcs, rfl⟩ | ⟨a, len, cap, mm, nn, D, Pl, hcs, _, hlc, hcm, hmm, rfl, hel⟩
  · simp at hcs
    subst hcs
    exact ⟨[], ⟨none, 0, rfl, by simp, by simp⟩, by simp⟩
  · simp at hcs
    subst hcs
    simp only [if_true] at hmm
    subst hmm
    rw [sizes.2.2.1] at hel
    have hi : ∀ i, i < len → ∃ k : Int, w.cells? 0 (a.add (i * 1)) 1 = some [.int .i64 k] := fun i hi => by
      obtain ⟨cs', hc, ht⟩ := hel i (by omega)
      obtain ⟨k, e0, _, _⟩ := DataW.trod_int Try.underlying3 ht
      exact ⟨k, by rw [hc, e0]⟩
    obtain ⟨f, hf⟩ := Go.Deep.choose_lt (α := Int) hi
    refine ⟨(List.range len).map f, ⟨some a, mm, by simp, by simp only [maxLen] at hcm; simp; omega, fun j u hj => ?_⟩, fun hw => ?_⟩
    · have hjl := get_lt hj
      rw [List.length_map, List.length_range] at hjl
      rw [List.getElem?_map, List.getElem?_range hjl] at hj
      simp at hj
      subst hj
      have c0 : w.cell? (a.add (j * 1 + 0)) = some (.int .i64 (f j)) := by
        have := (World.cells?_some (hf j hjl)).2.2 0 (by omega)
        rwa [Go.Deep.add_add] at this
      obtain ⟨b, off, spot⟩ := a
      have hspot : spot = none := by
        have h0 := (World.cells?_some (hf 0 (by omega))).2.2 0 (by omega)
        rw [Go.Deep.add_add] at h0
        simpa [Addr.add] using World.cell?_spot h0
      subst hspot
      have ad : ∀ r, (⟨b, off, none⟩ : Addr).add r = ⟨b, off + r, none⟩ := fun r => by cases r <;> simp [Addr.add]
      rw [ad] at c0
      exact ⟨b, off, rfl, World.block_lt_of_cell? w _ c0, by rw [show off + j = off + (j * 1 + 0) by omega]; exact c0⟩
    · have h1 := hw (((List.range len).map D).length + ((List.range (mm - len)).map fun j => D (len + j)).length |> (· * Try.prog.bytesOf 3)) (by simp only [DataW.weights, Try.underlying34]; exact List.mem_cons_self)
      rw [sizes.2.2.2] at h1
      simp only [List.length_map, List.length_range] at h1 ⊢
      omega
theorem blk_of {fuel : Nat} {cs : List Value} {x : DataW H × List MemPlace} (h : DataW.trod enc Try.prog w 0 (fun _ => true) true fuel 41 cs = some x) :
    ∃ (y : (Value × Value × Value) × Blk), cs = [y.1.1, y.1.2.1, y.1.2.2] ∧ IntsAt w y.1.1 y.2.u ∧ IntsAt w y.1.2.1 y.2.d ∧ IntsAt w y.1.2.2 y.2.n ∧ ((∀ n ∈ x.1.weights Try.prog 41, n ≤ reachBytes) → y.2.u.length + y.2.d.length + y.2.n.length ≤ 100000000000000) := by
  obtain ⟨y0, y1, y2, n, hx, hl, h0, h1, h2⟩ := Go.Deep.trod_struct3 Try.underlying41 h
  obtain ⟨c0, c1, c2, rfl⟩ := three_of (hl.trans sizes.1)
  simp only [sizes.2.1, List.drop_zero, List.drop_succ_cons, List.take_succ_cons, List.take_zero] at h0 h1 h2
  obtain ⟨l0, i0, w0⟩ := ints_of h0
  obtain ⟨l1, i1, w1⟩ := ints_of h1
  obtain ⟨l2, i2, w2⟩ := ints_of h2
  refine ⟨((c0, c1, c2), ⟨l0, l1, l2⟩), rfl, i0, i1, i2, fun hw => ?_⟩
  subst hx
  have hm : ∀ m, m ∈ y0.1.weights Try.prog 34 ∨ m ∈ y1.1.weights Try.prog 34 ∨ m ∈ y2.1.weights Try.prog 34 → m ≤ reachBytes := fun m hm => hw m (by
    simp only [DataW.weights, Try.underlying41, DataW.weightsEach, List.map_cons, List.map_nil, List.mem_append]
    rcases hm with h | h | h
    · exact .inl h
    · exact .inr (.inl h)
    · exact .inr (.inr (.inl h)))
  have a0 := w0 (fun m h => hm m (.inl h))
  have a1 := w1 (fun m h => hm m (.inr (.inl h)))
  have a2 := w2 (fun m h => hm m (.inr (.inr h)))
  have hr : reachBytes < 2 ^ 47 := reachBytes_lt
  simp only
  omega
theorem weights_all {P : Program} {e : TypeId} : ∀ {l : List (DataW H)} {d : DataW H} {n : Nat}, d ∈ l → n ∈ d.weights P e → n ∈ DataW.weightsAll P e l
  | a :: r, d, n, hd, hn => by
    simp only [DataW.weightsAll, List.mem_append]
    rcases List.mem_cons.mp hd with rfl | hd
    · exact .inl hn
    · exact .inr (weights_all hd hn)
theorem blks_of {base : Nat} {v : Value} {d : DataW H} {p : List MemPlace} (hok : Value.okWide Try.prog w .any base 22 v) (h : DataW.Trod enc Try.prog w 0 (fun _ => true) true 22 v d p) :
    ∃ l : List Blk, BlksAt w v l ∧ ((∀ n ∈ d.weights Try.prog 22, n ≤ reachBytes) → ∀ (i : Nat) (b : Blk), l[i]? = some b → b.u.length + b.d.length + b.n.length ≤ 100000000000000) := by
  obtain ⟨a0, len, cap, rfl⟩ := okWide_slice Try.underlying22 hok
  obtain ⟨fuel, hf⟩ := h
  rcases Go.Deep.open_slice Try.underlying22 hf with ⟨hcs, _⟩ | ⟨a, len', cap', mm, nn, D, Pl, hcs, _, hlc, _, hmm, hx, hel⟩
  · simp [Value.cells] at hcs
    obtain ⟨rfl, rfl, rfl⟩ := hcs
    exact ⟨[], ⟨none, 0, rfl, by simp⟩, fun _ i b hb => by simp at hb⟩
  · simp [Value.cells] at hcs
    obtain ⟨rfl, rfl, rfl⟩ := hcs
    simp only [if_true] at hmm
    subst hmm
    rw [sizes.1] at hel
    have hi : ∀ i, i < len → ∃ y : (Value × Value × Value) × Blk, w.cells? 0 (a.add (i * 3)) 3 = some [y.1.1, y.1.2.1, y.1.2.2] ∧ IntsAt w y.1.1 y.2.u ∧ IntsAt w y.1.2.1 y.2.d ∧ IntsAt w y.1.2.2 y.2.n ∧ ((∀ n ∈ (D i).weights Try.prog 41, n ≤ reachBytes) → y.2.u.length + y.2.d.length + y.2.n.length ≤ 100000000000000) := fun i hi => by
      obtain ⟨cs', hc, ht⟩ := hel i (by omega)
      obtain ⟨y, rfl, h1, h2, h3, h4⟩ := blk_of ht
      exact ⟨y, hc, h1, h2, h3, h4⟩
    obtain ⟨f, hf⟩ := Go.Deep.choose_lt (α := (Value × Value × Value) × Blk) hi
    refine ⟨(List.range len).map fun i => (f i).2, ⟨some a, mm, by simp, fun j u hj => ?_⟩, fun hw j u hj => ?_⟩
    · have hjl := get_lt hj
      rw [List.length_map, List.length_range] at hjl
      rw [List.getElem?_map, List.getElem?_range hjl] at hj
      simp at hj
      subst hj
      obtain ⟨f1, f2, f3, f4, _⟩ := hf j hjl
      have hcell : ∀ r, r < 3 → w.cell? (a.add (j * 3 + r)) = [(f j).1.1, (f j).1.2.1, (f j).1.2.2][r]? := fun r hr => by
        have := (World.cells?_some f1).2.2 r hr
        rwa [Go.Deep.add_add] at this
      obtain ⟨b, off, spot⟩ := a
      have c0 := hcell 0 (by omega)
      have c1 := hcell 1 (by omega)
      have c2 := hcell 2 (by omega)
      have hspot : spot = none := by
        have h0 := (World.cells?_some (hf 0 (by omega)).1).2.2 0 (by omega)
        rw [Go.Deep.add_add] at h0
        simpa [Addr.add] using World.cell?_spot h0
      subst hspot
      have ad : ∀ r, (⟨b, off, none⟩ : Addr).add r = ⟨b, off + r, none⟩ := fun r => by cases r <;> simp [Addr.add]
      rw [ad] at c0 c1 c2
      refine ⟨b, off, (f j).1.1, (f j).1.2.1, (f j).1.2.2, rfl, World.block_lt_of_cell? w _ c0, ?_, ?_, ?_, f2, f3, f4⟩
      · rw [show off + j * 3 = off + (j * 3 + 0) by omega]; exact c0
      · rw [show off + j * 3 + 1 = off + (j * 3 + 1) by omega]; exact c1
      · rw [show off + j * 3 + 2 = off + (j * 3 + 2) by omega]; exact c2
    · have hjl := get_lt hj
      rw [List.length_map, List.length_range] at hjl
      rw [List.getElem?_map, List.getElem?_range hjl] at hj
      simp at hj
      subst hj
      refine (hf j hjl).2.2.2.2 fun n hn => hw n ?_
      obtain ⟨rfl, _⟩ := Prod.mk.inj hx
      simp only [DataW.weights, Try.underlying22]
      refine List.mem_cons_of_mem _ (List.mem_append_left _ (weights_all (d := D j) (List.mem_map.mpr ⟨j, List.mem_range.mpr hjl, rfl⟩) hn))
end
end Go.Proofs.Ytaejhppfcmeopaa
