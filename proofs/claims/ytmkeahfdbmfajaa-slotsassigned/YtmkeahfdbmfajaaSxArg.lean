/- Ranges that are an argument. -/
import Derived.Test.YtmkeahfdbmfajaaSxJ
import Derived.Test.YtmkeahfdbmfajaaRows
import Derived.ProofKit
import Derived.OpenShut
import Derived.Deep.Slices
import Derived.Deep.Strs
import Derived.SizedLaws
namespace Go.Proofs.Ytmkeahfdbmfajaa
open Go.ChangeShapes Go.WideShapes Go.ChangeAt Go.RowKit
theorem own : ownKnob Try.prog.godebug = none := by kernel_rfl
theorem laidOut : laidOutB Try.prog = true := by kernel_rfl
theorem sizes : Try.prog.cellsOf 37 = 2 ∧ Try.prog.cellsOf 3 = 1 ∧ Try.prog.bytesOf 37 = 16 := ⟨by kernel_rfl, by kernel_rfl, by kernel_rfl⟩
theorem two_of {α : Type} {cs : List α} (h : cs.length = 2) : ∃ c0 c1, cs = [c0, c1] := by
  match cs, h with
  | [c0, c1], _ => exact ⟨c0, c1, rfl⟩
instance : Inhabited Rg := ⟨⟨0, 0⟩⟩
section
variable {H : Type} {enc : TypeId × Value → H} {w : World}
theorem trod_struct2 {P : Program} {base : Nat} {spare : Nat → Bool} {held : Bool} {t : TypeId} {f0 f1 : Field} {fuel : Nat} {cs : List Value} {x : DataW H × List MemPlace} (ht : P.underlying t = some (.struct #[f0, f1])) (h : DataW.trod enc P w base spare held fuel t cs = some x) :
    ∃ y0 y1 n, x = (.agg [y0.1, y1.1], y0.2 ++ y1.2) ∧ cs.length = P.cellsOf t ∧ DataW.trod enc P w base spare held n f0.type ((cs.drop f0.offset).take (P.cellsOf f0.type)) = some y0 ∧ DataW.trod enc P w base spare held n f1.type ((cs.drop f1.offset).take (P.cellsOf f1.type)) = some y1 := by
  obtain ⟨xs, n, _, rfl, hl, hlen, hf⟩ := DataW.trod_struct ht h
  match xs, hlen with
  | [y0, y1], _ => exact ⟨y0, y1, n, by simp, hl, by simpa using hf 0 f0 rfl, by simpa using hf 1 f1 rfl⟩
theorem rg_of {fuel : Nat} {cs : List Value} {d : DataW H} {p : List MemPlace} (h : DataW.trod enc Try.prog w 0 (fun _ => true) true fuel 37 cs = some (d, p)) :
    ∃ u : Rg, cs = [.int .i64 u.fr, .int .i64 u.en] := by
  obtain ⟨y0, y1, n, hx, hl, h0, h1⟩ := trod_struct2 Try.underlying37 h
  obtain ⟨c0, c1, rfl⟩ := two_of (hl.trans sizes.1)
  simp only [sizes.2.1, List.drop_zero, List.drop_succ_cons, List.take_succ_cons, List.take_zero] at h0 h1
  obtain ⟨k, e0, _, _⟩ := DataW.trod_int Try.underlying3 h0
  obtain ⟨m, e1, _, _⟩ := DataW.trod_int Try.underlying3 h1
  injection e0 with e0 _
  injection e1 with e1 _
  subst e0 e1
  exact ⟨⟨k, m⟩, rfl⟩
set_option maxRecDepth 100000 in
theorem rgs_of {base : Nat} {v : Value} {d : DataW H} {p : List MemPlace} (hok : Value.okWide Try.prog w .any base 22 v) (h : DataW.Trod enc Try.prog w 0 (fun _ => true) true 22 v d p) :
    ∃ l : List Rg, RgsAt w v l ∧ ((∀ n ∈ d.weights Try.prog 22, n ≤ reachBytes) → l.length * 16 ≤ 140737488355328) := by
  obtain ⟨a0, len, cap, rfl⟩ := okWide_slice Try.underlying22 hok
  obtain ⟨fuel, hf⟩ := h
  rcases Go.Deep.open_slice Try.underlying22 hf with ⟨hcs, _⟩ | ⟨a, len', cap', mm, nn, D, Pl, hcs, _, hlc, hcm, hmm, hx, hel⟩
  · simp [Value.cells] at hcs
    obtain ⟨rfl, rfl, rfl⟩ := hcs
    exact ⟨[], ⟨by simp, none, 0, rfl, by simp⟩, by simp⟩
  · simp [Value.cells] at hcs
    obtain ⟨rfl, rfl, rfl⟩ := hcs
    simp only [if_true] at hmm
    subst hmm
    rw [sizes.1] at hel
    have hi : ∀ i, i < len → ∃ u : Rg, w.cells? 0 (a.add (i * 2)) 2 = some [.int .i64 u.fr, .int .i64 u.en] := fun i hi => by
      obtain ⟨cs', hc, ht⟩ := hel i (by omega)
      obtain ⟨u, rfl⟩ := rg_of ht
      exact ⟨u, hc⟩
    obtain ⟨f, hf⟩ := Go.Deep.choose_lt (α := Rg) hi
    refine ⟨(List.range len).map f, ⟨by simp only [maxLen] at hcm; simp; omega, some a, mm, by simp, fun j u hj => ?_⟩, fun hw => ?_⟩
    · have hjl := get_lt hj
      rw [List.length_map, List.length_range] at hjl
      rw [List.getElem?_map, List.getElem?_range hjl] at hj
      simp at hj
      subst hj
      have hcell : ∀ r, r < 2 → w.cell? (a.add (j * 2 + r)) = [Value.int .i64 (f j).fr, .int .i64 (f j).en][r]? := fun r hr => by
        have := (World.cells?_some (hf j hjl)).2.2 r hr
        rwa [Go.Deep.add_add] at this
      obtain ⟨b, off, spot⟩ := a
      have c0 := hcell 0 (by omega)
      have c1 := hcell 1 (by omega)
      have hspot : spot = none := by
        have h0 := (World.cells?_some (hf 0 (by omega))).2.2 0 (by omega)
        rw [Go.Deep.add_add] at h0
        simpa [Addr.add] using World.cell?_spot h0
      subst hspot
      have ad : ∀ r, (⟨b, off, none⟩ : Addr).add r = ⟨b, off + r, none⟩ := fun r => by cases r <;> simp [Addr.add]
      rw [ad] at c0 c1
      refine ⟨b, off, rfl, World.block_lt_of_cell? w _ c0, ?_, ?_⟩
      · rw [show off + j * 2 = off + (j * 2 + 0) by omega]; exact c0
      · rw [show off + j * 2 + 1 = off + (j * 2 + 1) by omega]; exact c1
    · obtain ⟨rfl, _⟩ := Prod.mk.inj hx
      have h1 := hw (((List.range len).map D).length + ((List.range (mm - len)).map fun j => D (len + j)).length |> (· * Try.prog.bytesOf 37)) (by simp only [DataW.weights, Try.underlying22]; exact List.mem_cons_self)
      rw [sizes.2.2] at h1
      have hr : reachBytes < 2 ^ 47 := reachBytes_lt
      simp only [List.length_map, List.length_range] at h1 ⊢
      omega
end
end Go.Proofs.Ytmkeahfdbmfajaa
