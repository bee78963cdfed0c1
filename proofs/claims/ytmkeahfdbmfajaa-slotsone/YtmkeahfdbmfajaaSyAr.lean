/- Lengths that are an argument. -/
import Derived.Test.YtmkeahfdbmfajaaSyO
import Derived.Test.YtmkeahfdbmfajaaSxArg
namespace Go.Proofs.Ytmkeahfdbmfajaa
open Go.ChangeShapes Go.WideShapes Go.ChangeAt Go.RowKit
theorem cellsU16 : Try.prog.cellsOf 38 = 1 := by kernel_rfl
set_option maxRecDepth 100000 in
theorem lens_of {H : Type} {enc : TypeId × Value → H} {W : World} {base : Nat} {v : Value} {d : DataW H} {p : List MemPlace} (hok : Value.okWide Try.prog W .any base 40 v) (h : DataW.Trod enc Try.prog W 0 (fun _ => true) true 40 v d p) :
    ∃ l : List Nat, LensAt W v l := by
  obtain ⟨a0, len, cap, rfl⟩ := okWide_slice Try.underlying40 hok
  obtain ⟨fuel, hf⟩ := h
  rcases open_ints Try.underlying40 Try.underlying38 cellsU16 hf with ⟨hcs, _⟩ | ⟨a, len', cap', zs, hcs, _, hl, hm, hz, _, hcell, hwz⟩
  · simp [Value.cells] at hcs
    obtain ⟨rfl, rfl, rfl⟩ := hcs
    exact ⟨[], none, 0, rfl, Nat.le_refl _, by omega, by simp, by simp⟩
  · simp [Value.cells] at hcs
    obtain ⟨rfl, rfl, rfl⟩ := hcs
    simp at hz
    refine ⟨(zs.take len).map Int.toNat, some a, cap, by rw [List.length_map, List.length_take, Nat.min_eq_left (by omega)], by rw [List.length_map, List.length_take]; omega, by simp only [maxLen] at hm; omega, fun x hx => ?_, fun j u hj => ?_⟩
    · obtain ⟨y, hy, rfl⟩ := List.mem_map.mp hx
      have := bounds_u16 (hwz y (List.mem_of_mem_take hy))
      omega
    · have hjl := get_lt hj
      rw [List.length_map, List.length_take] at hjl
      have hjz : j < zs.length := by omega
      rw [List.getElem?_map, List.getElem?_take, if_pos (by omega), List.getElem?_eq_getElem hjz] at hj
      simp at hj
      have hw := bounds_u16 (hwz zs[j] (List.getElem_mem hjz))
      have hc := hcell j hjz
      rw [List.getD_eq_getElem?_getD, List.getElem?_eq_getElem hjz, Option.getD_some] at hc
      have hc0 := hcell 0 (by omega)
      rw [show a.add 0 = a by simp [Addr.add]] at hc0
      have hspot : a = ⟨a.block, a.off, none⟩ := by
        obtain ⟨b, o, sp⟩ := a
        cases sp with
        | none => rfl
        | some s => simp [World.cell?] at hc0; split at hc0 <;> simp at hc0
      refine ⟨a.block, a.off, congrArg some hspot, World.block_lt_of_cell? W a hc0, ?_⟩
      rw [hspot] at hc
      rw [show (⟨a.block, a.off + j, none⟩ : Addr) = (⟨a.block, a.off, none⟩ : Addr).add j by cases j <;> simp [Addr.add], hc]
      congr 2
      omega
end Go.Proofs.Ytmkeahfdbmfajaa
