/- What is free and what is taken, as plain mathematics. -/
import Derived.Test.YtmkeahfdbmfajaaSxD
namespace Go.Proofs.Ytmkeahfdbmfajaa
/-- The least slot whose last range has ended by this moment, or a new one. -/
def lst (un : List Int) (t : Int) : Nat := un.findIdx fun x => decide (x ≤ t)
/-- A slot is given to a range that ends there. -/
def gv (un : List Int) (s : Nat) (e : Int) : List Int := if s < un.length then un.set s e else un ++ [e]
/-- The slots are free or taken; what is free has ended by the moment t. -/
structure Iv (fr tk : List Nat) (un : List Int) (t : Int) : Prop where
  p : (fr ++ tk).Perm (List.range un.length)
  hf : Hp (fun x => (x : Int)) fr fr.length
  ht : Hp (ku un) tk tk.length
  le : ∀ a ∈ fr, ku un a ≤ t
theorem Iv.nil (t : Int) : Iv [] [] [] t := ⟨List.Perm.refl _, fun i h0 h1 => absurd h1 (by simp), fun i h0 h1 => absurd h1 (by simp), fun a h => by cases h⟩
section
variable {fr tk : List Nat} {un : List Int} {t : Int}
theorem Iv.len (I : Iv fr tk un t) : fr.length + tk.length = un.length := by
  have h := I.p.length_eq
  rw [List.length_append, List.length_range] at h; exact h
theorem Iv.bf (I : Iv fr tk un t) : ∀ a ∈ fr, a < un.length := fun _ h => List.mem_range.mp (I.p.mem_iff.mp (List.mem_append.mpr (.inl h)))
theorem Iv.bt (I : Iv fr tk un t) : ∀ a ∈ tk, a < un.length := fun _ h => List.mem_range.mp (I.p.mem_iff.mp (List.mem_append.mpr (.inr h)))
theorem Iv.nodup (I : Iv fr tk un t) : (fr ++ tk).Nodup := I.p.nodup_iff.mpr List.nodup_range
theorem Iv.all (I : Iv fr tk un t) {a : Nat} (h : a < un.length) : a ∈ fr ∨ a ∈ tk := List.mem_append.mp (I.p.mem_iff.mpr (List.mem_range.mpr h))
theorem Iv.later (I : Iv fr tk un t) {t' : Int} (h : t ≤ t') : Iv fr tk un t' := ⟨I.p, I.hf, I.ht, fun a ha => Int.le_trans (I.le a ha) h⟩
/-- One slot more comes free. -/
theorem Iv.free (I : Iv fr tk un t) {x : Nat} {l tk' : List Nat} (hx : tk.Perm (x :: tk')) (hl : l.Perm (fr ++ [x])) (h1 : Hp (fun x => (x : Int)) l l.length) (h2 : Hp (ku un) tk' tk'.length) (hk : ku un x ≤ t) : Iv l tk' un t := by
  refine ⟨?_, h1, h2, fun a ha => ?_⟩
  · refine List.Perm.trans ?_ I.p
    refine (List.Perm.append_right tk' hl).trans ?_
    rw [List.append_assoc]
    exact List.Perm.append_left fr hx.symm
  · rcases List.mem_append.mp (hl.mem_iff.mp ha) with h | h
    · exact I.le a h
    · rw [List.mem_singleton.mp h]; exact hk
theorem mem0 {l : List Nat} (h : 0 < l.length) : l.getD 0 0 ∈ l := by
  match l, h with
  | a :: r, _ => simp
theorem root_le {key : Nat → Int} {l : List Nat} (h : Hp key l l.length) : ∀ a ∈ l, key (l.getD 0 0) ≤ key a := fun a ha => by
  obtain ⟨i, hi, rfl⟩ := List.getElem_of_mem ha
  have := h.root i hi
  unfold kv at this
  rw [show l.getD i 0 = l[i] by simp [List.getD_eq_getElem?_getD, hi]] at this
  exact this
/-- The root of what is free is the least slot. -/
theorem Iv.least (I : Iv fr tk un t) (hg : ∀ a ∈ tk, t < ku un a) (h0 : 0 < fr.length) : lst un t = fr.getD 0 0 := by
  have hm := mem0 h0
  have hb := I.bf _ hm
  unfold lst
  rw [List.findIdx_eq hb]
  have hu : ∀ a (h : a < un.length), un[a] = ku un a := fun a h => by simp [ku, List.getD_eq_getElem?_getD, h]
  refine ⟨?_, fun j hj => ?_⟩
  · rw [hu _ hb]; simpa using I.le _ hm
  · have hjb : j < un.length := Nat.lt_trans hj hb
    rw [hu _ hjb]
    rcases I.all hjb with h | h
    · have := root_le I.hf j h; omega
    · have := hg j h; simpa using this
theorem Iv.none (I : Iv fr tk un t) (hg : ∀ a ∈ tk, t < ku un a) (h0 : fr = []) : lst un t = un.length := by
  unfold lst
  rw [List.findIdx_eq_length]
  intro x hx
  obtain ⟨i, hi, rfl⟩ := List.getElem_of_mem hx
  have hu : un[i] = ku un i := by simp [ku, List.getD_eq_getElem?_getD, hi]
  rcases I.all hi with h | h
  · rw [h0] at h; cases h
  · rw [hu]; have := hg i h; simp; omega
theorem ku_set {s a : Nat} {e : Int} (h : a ≠ s) : ku (un.set s e) a = ku un a := by
  unfold ku
  simp only [List.getD_eq_getElem?_getD, List.getElem?_set]
  rw [if_neg (fun h2 => h h2.symm)]
theorem ku_snoc {a : Nat} {e : Int} (h : a < un.length) : ku (un ++ [e]) a = ku un a := by
  unfold ku
  simp [List.getD_eq_getElem?_getD, List.getElem?_append_left h]
/-- The least free slot is given away. -/
theorem Iv.give (I : Iv fr tk un t) {s : Nat} {fr' l : List Nat} (e : Int) (hs : fr.Perm (s :: fr')) (h1 : Hp (fun x => (x : Int)) fr' fr'.length) (hl : l.Perm (tk ++ [s])) (h2 : Hp (ku (un.set s e)) l l.length) : Iv fr' l (un.set s e) t := by
  have hn := I.nodup
  have hnf : (s :: fr').Nodup := (hs.nodup_iff).mp (List.nodup_append.mp hn).1
  refine ⟨?_, h1, h2, fun a ha => ?_⟩
  · rw [List.length_set]
    refine List.Perm.trans ?_ I.p
    refine (List.Perm.append_left fr' hl).trans ?_
    refine List.Perm.trans ?_ (List.Perm.append_right tk hs).symm
    rw [← List.append_assoc]
    exact (List.perm_append_comm).trans (List.Perm.refl _)
  · have hne : a ≠ s := fun h => by rw [h] at ha; exact (List.nodup_cons.mp hnf).1 ha
    rw [ku_set hne]
    exact I.le a (hs.mem_iff.mpr (List.mem_cons.mpr (.inr ha)))
theorem Iv.keep (I : Iv fr tk un t) {s : Nat} {fr' : List Nat} (e : Int) (hs : fr.Perm (s :: fr')) : Hp (ku (un.set s e)) tk tk.length := by
  refine I.ht.congr fun a ha => ku_set fun h => ?_
  have hd := (List.nodup_append.mp I.nodup).2.2
  exact hd s (hs.mem_iff.mpr (List.mem_cons.mpr (.inl rfl))) a ha h.symm
theorem Iv.keep2 (I : Iv fr tk un t) (e : Int) : Hp (ku (un ++ [e])) tk tk.length := I.ht.congr fun a ha => ku_snoc (I.bt a ha)
/-- A new slot is given away. -/
theorem Iv.more (I : Iv [] tk un t) {l : List Nat} (e : Int) (hl : l.Perm (tk ++ [un.length])) (h2 : Hp (ku (un ++ [e])) l l.length) : Iv [] l (un ++ [e]) t := by
  refine ⟨?_, I.hf, h2, fun a ha => by cases ha⟩
  rw [List.nil_append, List.length_append, List.length_singleton, List.range_succ]
  refine hl.trans (List.Perm.append_right _ ?_)
  have := I.p
  rwa [List.nil_append] at this
theorem lst_le (un : List Int) (t : Int) : lst un t ≤ un.length := List.findIdx_le_length
theorem gv_len (un : List Int) (s : Nat) (e : Int) : (gv un s e).length = if s < un.length then un.length else un.length + 1 := by
  unfold gv
  split <;> simp
end
end Go.Proofs.Ytmkeahfdbmfajaa
