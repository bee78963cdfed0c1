/- The methods of the two heaps: which function is called, and with what. -/
import Derived.Test.YtmkeahfdbmfajaaSxD
namespace Go.Proofs.Ytmkeahfdbmfajaa
open Go.RowKit
section
variable {W : World} {B : Nat} {v u : Value}
theorem ti_q (W : World) : ((typeInfo 60).run Try.prog W) = .ok (Try.prog.types[60]!) W := by kernel_rfl
theorem ti_t (W : World) : ((typeInfo 62).run Try.prog W) = .ok (Try.prog.types[62]!) W := by kernel_rfl
theorem at_q (s : String) : (receiverAt 60 (.val (.pointer (some ⟨B, 0, none⟩))) false (some s)).run Try.prog W = (loadVar 42 ⟨B, 0, none⟩).run Try.prog W := by kernel_rfl
theorem at_t (s : String) : (receiverAt 62 (.val (.pointer (some ⟨B, 1, none⟩))) false (some s)).run Try.prog W = (loadVar 44 ⟨B, 1, none⟩).run Try.prog W := by kernel_rfl
theorem load_q {a : Addr} (h : W.cell? a = some v) : (loadVar 42 a).run Try.prog W = .ok v W := by simp [h, go_sem]
theorem load_t (h : W.cell? ⟨B, 1, none⟩ = some v) (h2 : W.cell? ⟨B, 2, none⟩ = some u) : (loadVar 44 ⟨B, 1, none⟩).run Try.prog W = .ok (.agg #[v, u]) W := by simp [h, h2, go_sem]
theorem m0_Less (h : W.cell? ⟨B, 0, none⟩ = some v) : (method 222 60 (.pointer (some ⟨B, 0, none⟩)) "Less").run Try.prog W = .ok (84, v) W := by
  have h1 : Array.find? (fun x => x.name == "Less") Try.prog.types[60]!.methods = some ⟨"Less", 89, #[], some (84, false)⟩ := by kernel_rfl
  unfold method
  simp only [Sem.run_bind, ti_q, Result.andThen_ok, h1]
  simp [follow, at_q, load_q h]
theorem m0_Len (h : W.cell? ⟨B, 0, none⟩ = some v) : (method 222 60 (.pointer (some ⟨B, 0, none⟩)) "Len").run Try.prog W = .ok (27, v) W := by
  have h1 : Array.find? (fun x => x.name == "Len") Try.prog.types[60]!.methods = some ⟨"Len", 50, #[], some (27, false)⟩ := by kernel_rfl
  unfold method
  simp only [Sem.run_bind, ti_q, Result.andThen_ok, h1]
  simp [follow, at_q, load_q h]
theorem m0_Swap (h : W.cell? ⟨B, 0, none⟩ = some v) : (method 222 60 (.pointer (some ⟨B, 0, none⟩)) "Swap").run Try.prog W = .ok (85, v) W := by
  have h1 : Array.find? (fun x => x.name == "Swap") Try.prog.types[60]!.methods = some ⟨"Swap", 73, #[], some (85, false)⟩ := by kernel_rfl
  unfold method
  simp only [Sem.run_bind, ti_q, Result.andThen_ok, h1]
  simp [follow, at_q, load_q h]
theorem m1_Less (h : W.cell? ⟨B, 1, none⟩ = some v) (h2 : W.cell? ⟨B, 2, none⟩ = some u) : (method 222 62 (.pointer (some ⟨B, 1, none⟩)) "Less").run Try.prog W = .ok (86, .agg #[v, u]) W := by
  have h1 : Array.find? (fun x => x.name == "Less") Try.prog.types[62]!.methods = some ⟨"Less", 89, #[], some (86, false)⟩ := by kernel_rfl
  unfold method
  simp only [Sem.run_bind, ti_t, Result.andThen_ok, h1]
  simp [follow, at_t, load_t h h2]
theorem m1_Len (h : W.cell? ⟨B, 1, none⟩ = some v) : (method 222 62 (.pointer (some ⟨B, 1, none⟩)) "Len").run Try.prog W = .ok (27, v) W := by
  have h1 : Array.find? (fun x => x.name == "Len") Try.prog.types[62]!.methods = some ⟨"Len", 50, #[⟨44, 0, true⟩], some (27, false)⟩ := by kernel_rfl
  have h2 : ∀ W, (follow [⟨44, 0, true⟩] 62 (.val (.pointer (some ⟨B, 1, none⟩)))).run Try.prog W = .ok (42, .var ⟨B, 1, none⟩) W := fun W => by kernel_rfl
  have hr : ∀ s, (receiverAt 42 (.var ⟨B, 1, none⟩) false s).run Try.prog W = (loadVar 42 ⟨B, 1, none⟩).run Try.prog W := fun s => by kernel_rfl
  unfold method
  simp only [Sem.run_bind, ti_t, Result.andThen_ok, h1]
  simp [h2, hr, load_q h]
theorem m1_Swap (h : W.cell? ⟨B, 1, none⟩ = some v) : (method 222 62 (.pointer (some ⟨B, 1, none⟩)) "Swap").run Try.prog W = .ok (85, v) W := by
  have h1 : Array.find? (fun x => x.name == "Swap") Try.prog.types[62]!.methods = some ⟨"Swap", 73, #[⟨44, 0, true⟩], some (85, false)⟩ := by kernel_rfl
  have h2 : ∀ W, (follow [⟨44, 0, true⟩] 62 (.val (.pointer (some ⟨B, 1, none⟩)))).run Try.prog W = .ok (42, .var ⟨B, 1, none⟩) W := fun W => by kernel_rfl
  have hr : ∀ s, (receiverAt 42 (.var ⟨B, 1, none⟩) false s).run Try.prog W = (loadVar 42 ⟨B, 1, none⟩).run Try.prog W := fun s => by kernel_rfl
  unfold method
  simp only [Sem.run_bind, ti_t, Result.andThen_ok, h1]
  simp [h2, hr, load_q h]
theorem m0_Push : (method 222 60 (.pointer (some ⟨B, 0, none⟩)) "Push").run Try.prog W = .ok (88, .pointer (some ⟨B, 0, none⟩)) W := by kernel_rfl
theorem m0_Pop : (method 222 60 (.pointer (some ⟨B, 0, none⟩)) "Pop").run Try.prog W = .ok (87, .pointer (some ⟨B, 0, none⟩)) W := by kernel_rfl
theorem m1_Push : (method 222 62 (.pointer (some ⟨B, 1, none⟩)) "Push").run Try.prog W = .ok (88, .pointer (some ⟨B, 1, none⟩)) W := by kernel_rfl
theorem m1_Pop : (method 222 62 (.pointer (some ⟨B, 1, none⟩)) "Pop").run Try.prog W = .ok (87, .pointer (some ⟨B, 1, none⟩)) W := by kernel_rfl
end
end Go.Proofs.Ytmkeahfdbmfajaa
