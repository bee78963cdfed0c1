/- What can be come to without one: the search by a queue, plain. -/
import Derived.Test.YtaejhppfcmeopaaLxE
namespace Go.Proofs.Ytaejhppfcmeopaa
section
variable {E : Nat → List Nat} {d : Nat} {C : Nat → Bool} {q : List Nat}
def upB (C : Nat → Bool) (x : Nat) : Nat → Bool := fun y => if y = x then true else C y
theorem upB_same (C : Nat → Bool) (x : Nat) : upB C x x = true := by simp [upB]
theorem upB_mono (C : Nat → Bool) (x : Nat) {y : Nat} (h : C y = true) : upB C x y = true := by unfold upB; split <;> simp [h]
theorem upB_or {C : Nat → Bool} {x y : Nat} (h : upB C x y = true) : y = x ∨ C y = true := by
  unfold upB at h
  split at h
  · exact .inl (by assumption)
  · exact .inr h
/-- What holds of what is come to and what stands in the queue. -/
structure Bq (E : Nat → List Nat) (d : Nat) (C : Nat → Bool) (q : List Nat) : Prop where
  z : C 0 = true
  qm : ∀ x ∈ q, C x = true
  so : ∀ x, C x = true → Av E d x
  cl : ∀ x, C x = true → x ∈ q ∨ ∀ y ∈ E x, y ≠ d → C y = true
/-- .. while one of them is gone through. -/
structure Br (E : Nat → List Nat) (d : Nat) (C : Nat → Bool) (q : List Nat) (b k : Nat) : Prop where
  z : C 0 = true
  qm : ∀ x ∈ q, C x = true
  bm : C b = true
  so : ∀ x, C x = true → Av E d x
  cl : ∀ x, C x = true → x ∈ q ∨ x = b ∨ ∀ y ∈ E x, y ≠ d → C y = true
  km : ∀ y ∈ (E b).take k, y ≠ d → C y = true
theorem Bq.start (h : 0 ≠ d) : Bq E d (upB (fun _ => false) 0) [0] := by
  refine ⟨upB_same _ _, fun x hx => ?_, fun x hx => ?_, fun x hx => ?_⟩
  · rw [List.mem_singleton.mp hx]; exact upB_same _ _
  · rcases upB_or hx with rfl | h2
    · exact .here h
    · cases h2
  · rcases upB_or hx with rfl | h2
    · exact .inl (by simp)
    · cases h2
theorem Bq.pop {b : Nat} (W : Bq E d C (b :: q)) : Br E d C q b 0 := by
  refine ⟨W.z, fun x hx => W.qm x (List.mem_cons_of_mem _ hx), W.qm b (List.mem_cons_self ..), W.so, fun x hx => ?_, fun y hy => by simp at hy⟩
  rcases W.cl x hx with h | h
  · rcases List.mem_cons.mp h with rfl | h
    · exact .inr (.inl rfl)
    · exact .inl h
  · exact .inr (.inr h)
theorem Br.skip {b k y : Nat} (W : Br E d C q b k) (hy : (E b)[k]? = some y) (h : y = d ∨ C y = true) : Br E d C q b (k + 1) := by
  refine ⟨W.z, W.qm, W.bm, W.so, W.cl, fun z hz hne => ?_⟩
  rw [List.take_add_one, hy, List.mem_append] at hz
  rcases hz with hz | hz
  · exact W.km z hz hne
  · simp at hz
    subst hz
    exact h.resolve_left hne
theorem Br.push {b k y : Nat} (W : Br E d C q b k) (hy : (E b)[k]? = some y) (hd : y ≠ d) : Br E d (upB C y) (q ++ [y]) b (k + 1) := by
  refine ⟨upB_mono _ _ W.z, fun x hx => ?_, upB_mono _ _ W.bm, fun x hx => ?_, fun x hx => ?_, fun z hz hne => ?_⟩
  · rcases List.mem_append.mp hx with h | h
    · exact upB_mono _ _ (W.qm x h)
    · rw [List.mem_singleton.mp h]; exact upB_same _ _
  · rcases upB_or hx with rfl | h
    · exact .on (W.so b W.bm) (List.mem_of_getElem? hy) hd
    · exact W.so x h
  · rcases upB_or hx with rfl | h
    · exact .inl (by simp)
    · rcases W.cl x h with h | h | h
      · exact .inl (by simp [h])
      · exact .inr (.inl h)
      · exact .inr (.inr fun z hz hne => upB_mono _ _ (h z hz hne))
  · rw [List.take_add_one, hy, List.mem_append] at hz
    rcases hz with hz | hz
    · exact upB_mono _ _ (W.km z hz hne)
    · simp at hz
      subst hz
      exact upB_same _ _
theorem Br.done {b k : Nat} (W : Br E d C q b k) (hk : (E b).length ≤ k) : Bq E d C q := by
  refine ⟨W.z, W.qm, W.so, fun x hx => ?_⟩
  rcases W.cl x hx with h | h | h
  · exact .inl h
  · subst h
    exact .inr fun y hy hne => W.km y (by rw [List.take_of_length_le hk]; exact hy) hne
  · exact .inr h
theorem Bq.fin (W : Bq E d C []) (x : Nat) : C x = true ↔ Av E d x := by
  refine ⟨W.so x, fun h => ?_⟩
  induction h with
  | here _ => exact W.z
  | on _ hy hd ih => exact (W.cl _ ih).elim (fun h => by cases h) fun h => h _ hy hd
/-- How many are not come to. -/
def cnF (C : Nat → Bool) (n : Nat) : Nat := (List.range n).countP fun x => !C x
theorem cnF_up {n x : Nat} (hx : x < n) (h : C x = false) : cnF (upB C x) n + 1 ≤ cnF C n := by
  unfold cnF
  have key : ∀ l : List Nat, l.Nodup → x ∈ l → (l.countP fun y => !upB C x y) + 1 ≤ l.countP fun y => !C y := by
    intro l
    induction l with
    | nil => intro _ h2; cases h2
    | cons a r ih =>
      intro hn hm
      rw [List.countP_cons, List.countP_cons]
      rw [List.nodup_cons] at hn
      have hmono : ∀ r : List Nat, (r.countP fun y => !upB C x y) ≤ r.countP fun y => !C y := fun r => List.countP_mono_left (fun y _ hy => by
        simp only [Bool.not_eq_true'] at hy ⊢
        cases hc : C y with
        | false => rfl
        | true => rw [upB_mono C x hc] at hy; cases hy)
      rcases List.mem_cons.mp hm with rfl | hm
      · have := hmono r
        rw [upB_same, h]
        simp
        omega
      · have := ih hn.2 hm
        have e : upB C x a = C a := by unfold upB; rw [if_neg (fun e => hn.1 (by rw [e]; exact hm))]
        rw [e]
        omega
  exact key _ List.nodup_range (List.mem_range.mpr hx)
end
end Go.Proofs.Ytaejhppfcmeopaa
