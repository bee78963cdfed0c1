/- Decode: plain, and where what is read lies. -/
import Derived.Test.YtgkpfpaohibcjaaCdOP
import Derived.Test.YtgkpfpaohibcjaaCdS
namespace Go.Proofs.Ytgkpfpaohibcjaa
open Go.RowKit
def pg0 : Pg := ⟨[], [], [], []⟩
/-- Decode's answer. -/
def decP (b : By) : Pg × Int :=
  if MB < b.length then (pg0, 13)
  else if (pgR ⟨b, false⟩).2.bad = true ∨ 0 < (pgR ⟨b, false⟩).2.rest.length then (pg0, 3)
  else if sndP (pgR ⟨b, false⟩).1 = true then ((pgR ⟨b, false⟩).1, 0)
  else (pg0, 2)
section
variable {w w' : World}
theorem RowP.sl {α : Type} {T k B : Nat} {P P' : World → List Value → α → Prop} {v : Value} {l : List α} (h : RowP T k P B w v l) (hP : ∀ cs x, P w cs x → P' w cs x) : SlAt k P' w.heap.size w v l := by
  obtain ⟨xs, hown, hch⟩ := h
  have hm : l.length ≤ 9223372036854775807 := by
    rcases hown.2 with ⟨_, h1⟩ | ⟨g, cap, cur, _, _, _, h3, h4, _⟩
    · omega
    · simp only [maxLen] at h4; omega
  rcases hown.2 with ⟨h1, h2⟩ | ⟨g, cap, cur, h1, _, h3, h4, h5, h6, h7⟩
  · exact ⟨none, 0, by rw [h1, h2], hm, fun j x hx => by have := get_lt hx; omega⟩
  · refine ⟨_, cap, h1, hm, fun j x hx => ?_⟩
    obtain ⟨cs, e1, e2, e3⟩ := hch j x hx
    refine ⟨g, 0, cs, rfl, lt_of_block h3, fun r u hu => ?_, hP cs x e3⟩
    have := hown.cells (g := g) (by rw [h1]; rfl) (j * k + r) u (e2 r u hu)
    rw [show (⟨g, 0, none⟩ : Addr).add (j * k + r) = ⟨g, 0 + j * k + r, none⟩ by unfold Addr.add; split <;> simp_all] at this
    exact this
theorem PgR.at {v1 v2 v3 v4 : Value} {p : Pg} (h : PgR w v1 v2 v3 v4 p) : PgAt w.heap.size w v1 v2 v3 v4 p := by
  have hl : ∀ cs x, RLst w cs x → LstP w.heap.size w cs x := fun cs x ⟨v, h1, h2⟩ => ⟨v, h1, h2.sl fun _ _ h => h⟩
  exact ⟨h.ty.sl hl, h.fu.sl fun cs x ⟨a, b, c, d, h1, h2, h3, h4, h5, h6⟩ => ⟨a, b, c, d, h1, h2, h3.sl fun _ _ h => h, h4.sl fun _ _ h => h, h5.sl fun _ _ h => h, h6.sl fun _ _ h => h⟩, h.ta.sl hl, h.st.sl fun _ _ h => h⟩
theorem pg0_at (B : Nat) (w : World) : PgAt B w (.slice none 0 0) (.slice none 0 0) (.slice none 0 0) (.slice none 0 0) pg0 :=
  ⟨⟨none, 0, rfl, by simp [pg0], fun j x h => by simp [pg0] at h⟩, ⟨none, 0, rfl, by simp [pg0], fun j x h => by simp [pg0] at h⟩, ⟨none, 0, rfl, by simp [pg0], fun j x h => by simp [pg0] at h⟩, ⟨none, 0, rfl, by simp [pg0], fun j x h => by simp [pg0] at h⟩⟩
theorem PgAt.grow {B : Nat} {v1 v2 v3 v4 : Value} {p : Pg} (h : PgAt B w v1 v2 v3 v4 p) (hb : Below B w w') (hB : B ≤ w'.heap.size) : PgAt w'.heap.size w' v1 v2 v3 v4 p := h.keep hB (fun j hj => hb.block j hj)
end
end Go.Proofs.Ytgkpfpaohibcjaa
