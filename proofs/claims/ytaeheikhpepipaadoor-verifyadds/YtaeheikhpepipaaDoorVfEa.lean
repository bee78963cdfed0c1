/- A further type, function, text and table: plain. -/
import Derived.Test.YtaeheikhpepipaaDoorVfE
namespace Go.Proofs.YtaeheikhpepipaaDoor
def moF : Fd := ⟨0, [], [], [], [⟨24, 0, 0⟩]⟩
def moS : By := [109, 111, 114, 101]
def addQ (p : Pg) : Pg := ⟨p.ty ++ [[2]], p.fu ++ [moF], p.ta ++ [[(p.fu.length : Int)]], p.st ++ [moS]⟩
section
variable {p : Pg}
theorem add_ext : Ext p (addQ p) :=
  ⟨fun t l h => by unfold addQ; dsimp only; rw [List.getElem?_append_left (get_lt h)]; exact h, by simp [addQ], fun m g h => ⟨g, by unfold addQ; dsimp only; rw [List.getElem?_append_left (get_lt h)]; exact h, rfl, rfl⟩, by simp [addQ], fun t l h => by unfold addQ; dsimp only; rw [List.getElem?_append_left (get_lt h)]; exact h, by simp [addQ], by simp [addQ]⟩
theorem exf_refl (f : Fd) : ExF f f := ⟨fun _ _ h => h, Nat.le_refl _, fun _ _ h => h, Nat.le_refl _, rfl, fun _ _ h => h, Nat.le_refl _⟩
theorem each_app {α : Type} {m : Nat} {s : α → Bool} {l : List α} {x : α} (h : eachB m s l = true) (hl : l.length + 1 ≤ m) (hx : s x = true) : eachB m s (l ++ [x]) = true := by
  obtain ⟨_, h2⟩ := eachB_le h
  unfold eachB
  rw [Bool.and_eq_true, decide_eq_true_eq, List.all_eq_true]
  refine ⟨by simpa using hl, fun y hy => ?_⟩
  rw [List.mem_append] at hy
  rcases hy with hy | hy
  · exact h2 y hy
  · simp at hy
    subst hy
    exact hx
theorem add_snd (h : sndP p = true) (h1 : p.ty.length ≤ 900) (h2 : p.fu.length ≤ 900) (h3 : p.st.length ≤ 900) (h4 : p.ta.length ≤ 900) : sndP (addQ p) = true := by
  simp only [sndP, Bool.and_eq_true] at h ⊢
  exact ⟨each_app h.1 (by omega) (by decide), each_app h.2.1 (by omega) (by decide), each_app h.2.2.1 (by omega) rfl, each_app h.2.2.2 (by omega) (by decide)⟩
theorem head_mono {m n : Nat} {f : Fd} (h : headB m f = true) (hm : m ≤ n) : headB n f = true := by
  simp only [headB, Bool.and_eq_true, List.all_eq_true, decide_eq_true_eq] at h ⊢
  exact ⟨⟨⟨fun k hk => kb_mono (h.1.1.1 k hk) hm, fun t ht => in_mono (h.1.1.2 t ht) hm⟩, fun k hk => free_mono (h.1.2 k hk) hm⟩, h.2⟩
theorem firstBad_none_iff {p : Pg} : ∀ {i : Nat} {l : List Fd}, firstBad p i l = none ↔ ∀ (k : Nat) (f : Fd), l[k]? = some f → headB p.ty.length f = true ∧ (0 < i + k ∨ (f.pa = 0 ∧ f.re = []))
  | i, [] => by simp [firstBad]
  | i, g :: r => by
    unfold firstBad
    constructor
    · intro h k f hk
      split at h
      · rename_i hc
        cases k with
        | zero => cases hk; exact ⟨hc.1, by rw [Nat.add_zero]; exact hc.2⟩
        | succ k =>
          have := (firstBad_none_iff.mp h) k f hk
          rw [Nat.add_assoc, Nat.add_comm 1 k] at this
          exact this
      · cases h
    · intro h
      have h0 := h 0 g rfl
      rw [Nat.add_zero] at h0
      rw [if_pos h0]
      refine firstBad_none_iff.mpr fun k f hk => ?_
      have := h (k + 1) f hk
      rw [Nat.add_assoc, Nat.add_comm 1 k]
      exact this
theorem heads_none : headsP p = none ↔ (∀ l ∈ p.ty, 0 < l.length ∧ ∀ k ∈ l, freeB p.ty.length k = true) ∧ firstBad p 0 p.fu = none ∧ (∀ t ∈ p.ta, tableB p t = true) ∧ 0 < p.fu.length := by
  unfold headsP
  constructor
  · intro h
    split at h
    · cases h
    · rename_i h1
      rw [Bool.not_eq_false, List.all_eq_true] at h1
      split at h
      · cases h
      · rename_i h2
        split at h
        · rename_i h3
          rw [Bool.and_eq_true, List.all_eq_true, decide_eq_true_eq] at h3
          exact ⟨fun l hl => by have := h1 l hl; rw [Bool.and_eq_true, decide_eq_true_eq, List.all_eq_true] at this; exact this, h2, h3.1, h3.2⟩
        · cases h
  · rintro ⟨h1, h2, h3, h4⟩
    rw [if_neg (by rw [Bool.not_eq_false, List.all_eq_true]; intro l hl; rw [Bool.and_eq_true, decide_eq_true_eq, List.all_eq_true]; exact h1 l hl), h2]
    dsimp only
    rw [if_pos (by rw [Bool.and_eq_true, List.all_eq_true, decide_eq_true_eq]; exact ⟨h3, h4⟩)]
/-- A table stays right. -/
theorem table_ext {q : Pg} (X : Ext p q) {t : List Int} (h : tableB p t = true) : tableB q t = true := by
  unfold tableB at h ⊢
  rw [Bool.and_eq_true, List.all_eq_true] at h ⊢
  refine ⟨h.1, fun x hx => ?_⟩
  have hx2 := h.2 x hx
  simp only [Bool.and_eq_true, decide_eq_true_eq] at hx2 ⊢
  have h0 : inB ((t[0]?).getD 0) p.fu.length = true := by
    have hl : 0 < t.length := of_decide_eq_true h.1
    have := h.2 t[0] (List.getElem_mem hl)
    rw [List.getElem?_eq_getElem hl, Option.getD_some]
    simp only [Bool.and_eq_true] at this
    exact this.1.1
  obtain ⟨a1, a2⟩ := call_ext X h0
  obtain ⟨b1, b2⟩ := call_ext X hx2.1.1
  rw [a1, a2, b1, b2]
  exact ⟨⟨in_mono hx2.1.1 X.fl, hx2.1.2⟩, hx2.2⟩
theorem add_heads (h : headsP p = none) : headsP (addQ p) = none := by
  obtain ⟨h1, h2, h3, h4⟩ := heads_none.mp h
  rw [heads_none]
  refine ⟨fun l hl => ?_, ?_, fun t ht => ?_, by simp [addQ]⟩
  · have hn : (addQ p).ty.length = p.ty.length + 1 := by simp [addQ]
    have hl2 : l ∈ p.ty ++ [[2]] := hl
    rw [List.mem_append] at hl2
    rcases hl2 with hl2 | hl2
    · exact ⟨(h1 l hl2).1, fun k hk => free_mono ((h1 l hl2).2 k hk) (by omega)⟩
    · simp at hl2
      subst hl2
      refine ⟨by simp, fun k hk => ?_⟩
      simp at hk
      subst hk
      rw [hn]
      unfold freeB isKB bareK
      rw [if_neg (by decide)]
      simp
      omega
  · rw [firstBad_none_iff] at h2 ⊢
    intro k f hk
    have hk2 : (p.fu ++ [moF])[k]? = some f := hk
    rcases Nat.lt_or_ge k p.fu.length with hlt | hge
    · rw [List.getElem?_append_left hlt] at hk2
      obtain ⟨e1, e2⟩ := h2 k f hk2
      exact ⟨head_mono e1 (by simp [addQ]), e2⟩
    · rw [List.getElem?_append_right hge] at hk2
      have : f = moF := by
        have hk3 : k - p.fu.length = 0 := by have := get_lt hk2; simp at this; omega
        rw [hk3] at hk2
        cases hk2
        rfl
      subst this
      exact ⟨rfl, .inr ⟨rfl, rfl⟩⟩
  · have ht2 : t ∈ p.ta ++ [[(p.fu.length : Int)]] := ht
    rw [List.mem_append] at ht2
    rcases ht2 with ht2 | ht2
    · exact table_ext add_ext (h3 t ht2)
    · simp at ht2
      subst ht2
      unfold tableB
      simp [inB, addQ]
      omega
theorem add_moF : ∃ F, followP (addQ p) moF = .ok F := by
  refine ⟨⟨[some []], [false], 0⟩, ?_⟩
  rfl
theorem add_check (h : (checkP p).2.2 = 0) (h1 : p.ty.length ≤ 900) (h2 : p.fu.length ≤ 900) (h3 : p.st.length ≤ 900) (h4 : p.ta.length ≤ 900) : checkP p = (0, 0, 0) ∧ checkP (addQ p) = (0, 0, 0) := by
  obtain ⟨c1, c2, c3, c4⟩ := check_ok h
  refine ⟨c1, ok_check (add_snd c2 h1 h2 h3 h4) (add_heads c3) fun f hf => ?_⟩
  have H := hok_of c2 c3
  have hf2 : f ∈ p.fu ++ [moF] := hf
  rw [List.mem_append] at hf2
  rcases hf2 with hf2 | hf2
  · obtain ⟨F, hF⟩ := c4 f hf2
    obtain ⟨G, hG, _⟩ := follow_ext add_ext (exf_refl f) H (H.fu f hf2) hF
    exact ⟨G, hG⟩
  · simp at hf2
    subst hf2
    exact add_moF
end
end Go.Proofs.YtaeheikhpepipaaDoor
