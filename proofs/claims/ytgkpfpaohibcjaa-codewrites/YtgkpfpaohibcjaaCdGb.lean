/- How long a sound program's bytes are; a string behind bytes. -/
import Derived.Test.YtgkpfpaohibcjaaCdGl
import Derived.Test.YtgkpfpaohibcjaaCdGs
namespace Go.Proofs.Ytgkpfpaohibcjaa
open Go.RowKit
theorem flat_bound {α : Type} {E : α → By} {c : Nat} : ∀ {l : List α}, (∀ x ∈ l, (E x).length ≤ c) → (l.flatMap E).length ≤ l.length * c
  | [], _ => by simp
  | x :: l, h => by
    rw [List.flatMap_cons, List.length_append, List.length_cons, Nat.succ_mul]
    have h1 := h x (by simp)
    have h2 := flat_bound (l := l) (fun y hy => h y (by simp [hy]))
    omega
theorem lst_bound {α : Type} {E : α → By} {c m : Nat} {l : List α} (h : ∀ x ∈ l, (E x).length ≤ c) (hl : l.length ≤ m) : (lstE E l).length ≤ 10 + m * c := by
  unfold lstE
  rw [List.length_append]
  have h1 := numE_length l.length
  have h2 := flat_bound h
  have h3 : l.length * c ≤ m * c := Nat.mul_le_mul_right _ hl
  omega
theorem ints_bound {l : List Int} {m : Nat} (h : l.length ≤ m) : (intsE l).length ≤ 10 + m * 10 := lst_bound (fun x _ => numE_length x) h
theorem ins_bound (i : In3) : (insE i).length ≤ 30 := by
  unfold insE
  have := numE_length i.o
  have := numE_length i.a
  have := numE_length i.b
  simp only [List.length_append]
  omega
theorem fd_bound {f : Fd} (h : sndF f = true) : (fdE f).length ≤ 3000000 := by
  obtain ⟨⟨h1, _, _, h4, h5, h6⟩, _⟩ := (sndF_iff f).mp h
  have a1 := numE_length f.pa
  have a2 := ints_bound h1
  have a3 := ints_bound h4
  have a4 := ints_bound h5
  have a5 := lst_bound (E := insE) (c := 30) (fun x (_ : x ∈ f.co) => ins_bound x) h6
  unfold fdE
  simp only [List.length_append]
  omega
theorem pg_bound {p : Pg} (h : sndP p = true) : (pgE p).length ≤ 20000000000 := by
  obtain ⟨⟨h1, h2, h3, h4⟩, g1, g2, g3, g4⟩ := (sndP_iff p).mp h
  have a1 := lst_bound (E := intsE) (c := 50000) (m := 1024) (l := p.ty) (fun x hx => by have := List.all_eq_true.mp g1 x hx; simp only [sndL, decide_eq_true_eq] at this; have := ints_bound this; omega) h1
  have a2 := lst_bound (E := fdE) (c := 3000000) (m := 4096) (l := p.fu) (fun x hx => fd_bound (List.all_eq_true.mp g2 x hx)) h2
  have a3 := lst_bound (E := intsE) (c := 50000) (m := 1024) (l := p.ta) (fun x hx => by have := List.all_eq_true.mp g3 x hx; simp only [sndL, decide_eq_true_eq] at this; have := ints_bound this; omega) h3
  have a4 := lst_bound (E := strE) (c := 2000) (m := 1024) (l := p.st) (fun x hx => by have := List.all_eq_true.mp g4 x hx; simp only [sndS, decide_eq_true_eq] at this; have := numE_length x.length; unfold strE; rw [List.length_append]; omega) h4
  unfold pgE
  simp only [List.length_append, hdE, List.length_cons, List.length_nil]
  omega
section
variable {B : Nat} {w w' : World} {v : Value} {out : By}
theorem Ow.apps (R : Ow B w v out) (s : By) (h0 : 0 < out.length) (hm : out.length + s.length ≤ 100000000000000) (hB : B ≤ w.heap.size) :
    ∃ g cap w2, (Builtin.append_ #[28, 9] 28 #[v, .string ⟨s.toArray⟩]).run Try.prog w = .ok (.slice (some ⟨g, 0, none⟩) (out.length + s.length) cap) w2 ∧ Ow B w2 (.slice (some ⟨g, 0, none⟩) (out.length + s.length) cap) (out ++ s) ∧ Wk B w w2 := by
  have hs : (⟨s.toArray⟩ : ByteArray).size = s.length := by simp [ByteArray.size]
  have hinf := Try.info5
  cases hi : Try.prog.info? 5 with
  | none => rw [hi] at hinf; cases hinf
  | some i0 =>
    rw [hi] at hinf
    simp only [Option.map_some, Option.some.injEq, Prod.mk.injEq] at hinf
    obtain ⟨hz0, hz1, hz2⟩ := hinf
    obtain ⟨v', w2, hr, h2, h3, h4⟩ := Lib.run_append_own_string (P := Try.prog) w B 28 9 28 5 i0 Try.underlying28 Try.underlying9 hi hz0 hz1 hz2 v out.length _ R ⟨s.toArray⟩ (by rw [hs]; simp only [maxLen]; omega) (by rw [hs]; omega) hB
    obtain ⟨g, cap, rfl, _, hlt⟩ := h2.form (by omega)
    rw [hs] at hr h2
    refine ⟨g, cap, w2, hr, ?_, ?_, ?_⟩
    · show w2.ownsRow B 5 1 _ (out ++ s).length (Lib.byteCells (out ++ s))
      rw [List.length_append, Lib.byteCells, List.map_append]
      exact h2
    · exact Below.grown (Below.refl _ _) h3 hB (fun q hq => (R.lt q hq).1)
    · intro j d t f hj ht
      refine h3.block j (lt_of_block hj) (fun e => ?_)
      rcases R.2 with ⟨h1, _⟩ | ⟨q, _, cur, h1, _, h5, _⟩
      · rw [h1] at e; cases e
      · rw [h1] at e
        cases e
        rw [h5] at hj
        cases hj
        exact ht (by simp)
end
end Go.Proofs.Ytgkpfpaohibcjaa
