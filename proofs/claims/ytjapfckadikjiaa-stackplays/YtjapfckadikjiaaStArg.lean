/- Lists of numbers that are arguments. -/
import Derived.Test.YtjapfckadikjiaaStR
import Derived.ProofKit
import Derived.OpenShut
namespace Go.Proofs.Ytjapfckadikjiaa
open Go.ChangeShapes Go.WideShapes Go.ChangeAt Go.RowKit
theorem cellsByte : Try.prog.cellsOf 5 = 1 := by kernel_rfl
theorem cellsWord : Try.prog.cellsOf 57 = 1 := by kernel_rfl
/-- A list of two-byte numbers that lies in memory. -/
def B16 (w : World) (v : Value) (l : List Nat) : Prop := ∃ ao cap, v = .slice ao l.length cap ∧ ∀ (j u : Nat), l[j]? = some u → u < 65536 ∧ ∃ b o, ao = some ⟨b, o, none⟩ ∧ b < w.heap.size ∧ w.cell? ⟨b, o + j, none⟩ = some (.int .u16 u)
/-- A list of bytes that is an argument. -/
theorem bytes_of {H : Type} {enc : TypeId × Value → H} {W : World} {base : Nat} {v : Value} {d : DataW H} {p : List MemPlace} (hok : Value.okWide Try.prog W .any base 54 v) (h : DataW.Trod enc Try.prog W 0 (fun _ => true) true 54 v d p) :
    ∃ l : List Nat, Bts W v l ∧ l.length ≤ maxLen := by
  obtain ⟨a0, len, cap, rfl⟩ := okWide_slice Try.underlying54 hok
  obtain ⟨fuel, hf⟩ := h
  rcases open_ints Try.underlying54 Try.underlying5 cellsByte hf with ⟨hcs, _⟩ | ⟨a, len', cap', zs, hcs, _, hl, hm, hz, _, hcell, hwz⟩
  · simp [Value.cells] at hcs
    obtain ⟨rfl, rfl, rfl⟩ := hcs
    exact ⟨[], ⟨none, 0, rfl, by simp⟩, by simp⟩
  · simp [Value.cells] at hcs
    obtain ⟨rfl, rfl, rfl⟩ := hcs
    simp at hz
    refine ⟨(zs.take len).map Int.toNat, ⟨some a, cap, by rw [List.length_map, List.length_take, Nat.min_eq_left (by omega)], fun j u hj => ?_⟩, by rw [List.length_map, List.length_take]; omega⟩
    have hjl := get_lt hj
    rw [List.length_map, List.length_take] at hjl
    have hjz : j < zs.length := by omega
    rw [List.getElem?_map, List.getElem?_take, if_pos (by omega), List.getElem?_eq_getElem hjz] at hj
    simp at hj
    have hw := bounds_u8 (hwz zs[j] (List.getElem_mem hjz))
    have hc := hcell j hjz
    rw [List.getD_eq_getElem?_getD, List.getElem?_eq_getElem hjz, Option.getD_some] at hc
    have hc0 := hcell 0 (by omega)
    rw [show a.add 0 = a by simp [Addr.add]] at hc0
    have hspot : a = ⟨a.block, a.off, none⟩ := by
      obtain ⟨b, o, sp⟩ := a
      cases sp with
      | none => rfl
      | some s => simp [World.cell?] at hc0; split at hc0 <;> simp at hc0
    refine ⟨by omega, a.block, a.off, congrArg some hspot, World.block_lt_of_cell? W a hc0, ?_⟩
    rw [hspot] at hc
    rw [show (⟨a.block, a.off + j, none⟩ : Addr) = (⟨a.block, a.off, none⟩ : Addr).add j by cases j <;> simp [Addr.add], hc]
    congr 2
    omega

/-- A list of two-byte numbers that is an argument. -/
theorem words_of {H : Type} {enc : TypeId × Value → H} {W : World} {base : Nat} {v : Value} {d : DataW H} {p : List MemPlace} (hok : Value.okWide Try.prog W .any base 55 v) (h : DataW.Trod enc Try.prog W 0 (fun _ => true) true 55 v d p) :
    ∃ l : List Nat, B16 W v l ∧ l.length ≤ maxLen := by
  obtain ⟨a0, len, cap, rfl⟩ := okWide_slice Try.underlying55 hok
  obtain ⟨fuel, hf⟩ := h
  rcases open_ints Try.underlying55 Try.underlying57 cellsWord hf with ⟨hcs, _⟩ | ⟨a, len', cap', zs, hcs, _, hl, hm, hz, _, hcell, hwz⟩
  · simp [Value.cells] at hcs
    obtain ⟨rfl, rfl, rfl⟩ := hcs
    exact ⟨[], ⟨none, 0, rfl, by simp⟩, by simp⟩
  · simp [Value.cells] at hcs
    obtain ⟨rfl, rfl, rfl⟩ := hcs
    simp at hz
    refine ⟨(zs.take len).map Int.toNat, ⟨some a, cap, by rw [List.length_map, List.length_take, Nat.min_eq_left (by omega)], fun j u hj => ?_⟩, by rw [List.length_map, List.length_take]; omega⟩
    have hjl := get_lt hj
    rw [List.length_map, List.length_take] at hjl
    have hjz : j < zs.length := by omega
    rw [List.getElem?_map, List.getElem?_take, if_pos (by omega), List.getElem?_eq_getElem hjz] at hj
    simp at hj
    have hw := bounds_u16 (hwz zs[j] (List.getElem_mem hjz))
    have hc := hcell j hjz
    rw [List.getD_eq_getElem?_getD, List.getElem?_eq_getElem hjz, Option.getD_some] at hc
    have hc0 := hcell 0 (by omega)
    rw [show a.add 0 = a by simp [Addr.add]] at hc0
    have hspot : a = ⟨a.block, a.off, none⟩ := by
      obtain ⟨b, o, sp⟩ := a
      cases sp with
      | none => rfl
      | some s => simp [World.cell?] at hc0; split at hc0 <;> simp at hc0
    refine ⟨by omega, a.block, a.off, congrArg some hspot, World.block_lt_of_cell? W a hc0, ?_⟩
    rw [hspot] at hc
    rw [show (⟨a.block, a.off + j, none⟩ : Addr) = (⟨a.block, a.off, none⟩ : Addr).add j by cases j <;> simp [Addr.add], hc]
    congr 2
    omega
end Go.Proofs.Ytjapfckadikjiaa
