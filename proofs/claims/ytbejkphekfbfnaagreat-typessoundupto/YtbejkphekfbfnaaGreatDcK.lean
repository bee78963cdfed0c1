/- What is wrong with a table, as the document looks for it. -/
import Derived.Test.YtbejkphekfbfnaaGreatDcJ
namespace Go.Proofs.YtbejkphekfbfnaaGreat

mutual
theorem kw_all (ds : List Dc) : ∀ t : Tr, formT t = true → (t.kind == 8) = false → kwP ds t = allP ds t
  | .mk k s m ks, hf, h8 => by
    simp only [formT, Bool.and_eq_true] at hf
    have h8' : (k == 8) = false := h8
    have hks := kwL_allL ds ks hf.2
    simp only [kwP, allP]
    cases h4 : k == 4 with
    | true =>
      have hk : k = 4 := by simpa using h4
      subst hk
      have h0 : ks.length = 0 := by
        have h9 := hf.1
        unfold ownP at h9
        rw [if_neg (by decide), if_pos (by decide)] at h9
        simp only [Bool.and_eq_true, beq_iff_eq] at h9
        omega
      have : ks = [] := List.eq_nil_of_length_eq_zero h0
      subst this
      simp [allL]
    | false => simp [h8', hks]
theorem kwL_allL (ds : List Dc) : ∀ ts : List Tr, formL ts = true → kwL ds ts = allL ds ts
  | [], _ => rfl
  | t :: ts, hf => by
    simp only [formL, Bool.and_eq_true, Bool.not_eq_true'] at hf
    simp only [kwL, allL]
    rw [kw_all ds t hf.1.2 hf.1.1, kwL_allL ds ts hf.2]
end
theorem err_len {ds : List Dc} (h : 1024 < ds.length) : errP ds = 4 := by rw [errP, if_pos h]
theorem all_false {α : Type} {p : α → Bool} {l : List α} {a : α} (h : a ∈ l) (hp : p a = false) : l.all p = false := by
  rw [List.all_eq_false]
  exact ⟨a, h, by rw [hp]; simp⟩
theorem err_small {ds : List Dc} (h : ds.length ≤ 1024) {d : Dc} (hd : d ∈ ds) (hs : smallP d = false) : errP ds = 4 := by
  rw [errP, if_neg (by omega), if_pos (all_false hd hs)]
theorem err_form {ds : List Dc} (h : ds.length ≤ 1024) (hS : ds.all smallP = true) {d : Dc} (hd : d ∈ ds) (hs : dsP d = false) : errP ds = 2 := by
  rw [errP, if_neg (by omega), if_neg (by rw [hS]; simp), if_pos (all_false hd hs)]
theorem err_name {ds : List Dc} (h : ds.length ≤ 1024) (hS : ds.all smallP = true) (hF : ds.all dsP = true) (hN : ¬ (ds.map Dc.name).Nodup) : errP ds = 5 := by
  rw [errP, if_neg (by omega), if_neg (by rw [hS]; simp), if_neg (by rw [hF]; simp), if_pos hN]
theorem err_fit {ds : List Dc} (h : ds.length ≤ 1024) (hS : ds.all smallP = true) (hF : ds.all dsP = true) {d : Dc} (hd : d ∈ ds) (hs : fitP ds d = false) : errP ds = 5 := by
  rw [errP, if_neg (by omega), if_neg (by rw [hS]; simp), if_neg (by rw [hF]; simp)]
  by_cases hN : (ds.map Dc.name).Nodup
  · rw [if_neg (by simpa using hN), if_pos (all_false hd hs)]
  · rw [if_pos hN]
theorem err_ok {ds : List Dc} (h : ds.length ≤ 1024) (hS : ds.all smallP = true) (hF : ds.all dsP = true) (hN : (ds.map Dc.name).Nodup) (hT : ds.all (fitP ds) = true) : errP ds = 0 := by
  rw [errP, if_neg (by omega), if_neg (by rw [hS]; simp), if_neg (by rw [hF]; simp), if_neg (by simpa using hN), if_neg (by rw [hT]; simp)]
/-- The document's look at a member. -/
def okM (n k : Nat) (f : Fl) : Bool := ((nameP f.1 && soundP f.2) && !(f.2.kind == 8)) && !(decide ((n : Int) ≤ k) && !(f.2.kind == 7))
theorem okM_mem {n k : Nat} {f : Fl} (h : k < n) : okM n k f = memP f := by
  have : decide ((n : Int) ≤ k) = false := by simp; omega
  simp only [okM, memP, this, Bool.false_and, Bool.not_false, Bool.and_true]
  cases nameP f.1 <;> cases soundP f.2 <;> cases f.2.kind == 8 <;> rfl
theorem okM_met {n k : Nat} {f : Fl} (h : n ≤ k) : okM n k f = metP f := by
  have : decide ((n : Int) ≤ k) = true := by simp; omega
  simp only [okM, metP, memP, this, Bool.true_and]
  cases nameP f.1 <;> cases soundP f.2 <;> cases f.2.kind == 8 <;> cases f.2.kind == 7 <;> rfl
theorem mem_bad {d : Dc} {k : Nat} {f : Fl} (h : (d.fs ++ d.ms)[k]? = some f) (hb : okM d.fs.length k f = false) : dsP d = false := by
  have : (d.fs.all memP && d.ms.all metP) = false := by
    rcases Nat.lt_or_ge k d.fs.length with hl | hl
    · rw [List.getElem?_append_left hl] at h
      rw [okM_mem hl] at hb
      rw [all_false (List.mem_of_getElem? h) hb]; rfl
    · rw [List.getElem?_append_right hl] at h
      rw [okM_met hl] at hb
      rw [all_false (List.mem_of_getElem? h) hb]; simp
  unfold dsP
  rw [this]; simp
theorem mem_good {d : Dc} (h : ∀ (k : Nat) f, (d.fs ++ d.ms)[k]? = some f → okM d.fs.length k f = true) : (d.fs.all memP && d.ms.all metP) = true := by
  rw [Bool.and_eq_true, List.all_eq_true, List.all_eq_true]
  refine ⟨fun f hf => ?_, fun f hf => ?_⟩
  · obtain ⟨k, hk⟩ := List.getElem?_of_mem hf
    have hl := get_lt5 hk
    have := h k f (by rw [List.getElem?_append_left hl]; exact hk)
    rwa [okM_mem hl] at this
  · obtain ⟨k, hk⟩ := List.getElem?_of_mem hf
    have := h (d.fs.length + k) f (by rw [List.getElem?_append_right (by omega), Nat.add_sub_cancel_left]; exact hk)
    rwa [okM_met (by omega)] at this
/-- The document's look at a member's type. -/
def okT (ds : List Dc) (n k : Nat) (f : Fl) : Bool := allP ds f.2 && !(decide ((k : Int) < n) && strP ds f.2)
theorem mem_form {d : Dc} (hs : dsP d = true) {k : Nat} {f : Fl} (h : (d.fs ++ d.ms)[k]? = some f) : formT f.2 = true ∧ (f.2.kind == 8) = false ∧ cntN f.2 ≤ 20000 := by
  have hm : memP f = true := by
    simp only [dsP, Bool.and_eq_true] at hs
    rcases List.mem_append.1 (List.mem_of_getElem? h) with h | h
    · exact List.all_eq_true.1 hs.2.2.1 f h
    · have := List.all_eq_true.1 hs.2.2.2 f h
      simp only [metP, Bool.and_eq_true] at this
      exact this.2
  simp only [memP, soundP, Bool.and_eq_true, Bool.not_eq_true', decide_eq_true_eq] at hm
  exact ⟨hm.2.2.2, hm.2.1, hm.2.2.1.1⟩
theorem okT_eq {ds : List Dc} {d : Dc} (hs : dsP d = true) {k : Nat} {f : Fl} (h : (d.fs ++ d.ms)[k]? = some f) : okT ds d.fs.length k f = if k < d.fs.length then kfP ds f else kmP ds f := by
  obtain ⟨h1, h2, _⟩ := mem_form hs h
  unfold okT kfP kmP
  rw [kw_all ds f.2 h1 h2]
  by_cases hk : k < d.fs.length
  · rw [if_pos hk, decide_eq_true (by omega : (k : Int) < (d.fs.length : Int))]; simp
  · rw [if_neg hk, decide_eq_false (by omega : ¬ (k : Int) < (d.fs.length : Int))]; simp
theorem fit_type {ds : List Dc} {d : Dc} (hs : dsP d = true) {k : Nat} {f : Fl} (h : (d.fs ++ d.ms)[k]? = some f) (hb : okT ds d.fs.length k f = false) : fitP ds d = false := by
  rw [okT_eq hs h] at hb
  unfold fitP
  by_cases hk : k < d.fs.length
  · rw [if_pos hk] at hb
    rw [List.getElem?_append_left hk] at h
    rw [all_false (List.mem_of_getElem? h) hb]; simp
  · rw [if_neg hk] at hb
    rw [List.getElem?_append_right (by omega)] at h
    rw [all_false (List.mem_of_getElem? h) hb]; simp
theorem dist_iff (d : Dc) : distP d = true ↔ ∀ (j k : Nat) f g, j < k → (d.fs ++ d.ms)[j]? = some f → (d.fs ++ d.ms)[k]? = some g → f.1 ≠ g.1 := by
  unfold distP
  rw [decide_eq_true_eq, ← List.map_append, List.Nodup, List.pairwise_iff_getElem]
  constructor
  · intro h j k f g hjk hj hk
    have lj := get_lt5 hj
    have lk := get_lt5 hk
    have := h j k (by simpa using lj) (by simpa using lk) hjk
    rw [List.getElem?_eq_getElem lj] at hj
    rw [List.getElem?_eq_getElem lk] at hk
    cases hj; cases hk
    rwa [List.getElem_map, List.getElem_map] at this
  · intro h i j hi hj hij
    have li : i < (d.fs ++ d.ms).length := by simpa using hi
    have lj : j < (d.fs ++ d.ms).length := by simpa using hj
    have := h i j _ _ hij (List.getElem?_eq_getElem li) (List.getElem?_eq_getElem lj)
    rw [List.getElem_map, List.getElem_map]
    exact this
theorem fit_name {ds : List Dc} {d : Dc} {j k : Nat} {f g : Fl} (hjk : j < k) (hj : (d.fs ++ d.ms)[j]? = some f) (hk : (d.fs ++ d.ms)[k]? = some g) (he : f.1 = g.1) : fitP ds d = false := by
  have : distP d = false := by
    cases hd : distP d with
    | false => rfl
    | true => exact absurd he ((dist_iff d).1 hd j k f g hjk hj hk)
  unfold fitP
  rw [this]; rfl
theorem fit_good {ds : List Dc} {d : Dc} (hs : dsP d = true) (h1 : ∀ (j k : Nat) f g, j < k → (d.fs ++ d.ms)[j]? = some f → (d.fs ++ d.ms)[k]? = some g → f.1 ≠ g.1) (h2 : ∀ (k : Nat) f, (d.fs ++ d.ms)[k]? = some f → okT ds d.fs.length k f = true) : fitP ds d = true := by
  unfold fitP
  rw [(dist_iff d).2 h1, Bool.true_and, Bool.and_eq_true, List.all_eq_true, List.all_eq_true]
  refine ⟨fun f hf => ?_, fun f hf => ?_⟩
  · obtain ⟨k, hk⟩ := List.getElem?_of_mem hf
    have hl := get_lt5 hk
    have h3 : (d.fs ++ d.ms)[k]? = some f := by rw [List.getElem?_append_left hl]; exact hk
    have := h2 k f h3
    rwa [okT_eq hs h3, if_pos hl] at this
  · obtain ⟨k, hk⟩ := List.getElem?_of_mem hf
    have h3 : (d.fs ++ d.ms)[d.fs.length + k]? = some f := by rw [List.getElem?_append_right (by omega), Nat.add_sub_cancel_left]; exact hk
    have := h2 _ f h3
    rwa [okT_eq hs h3, if_neg (by omega)] at this
theorem find_twice {ds : List Dc} {i : Nat} {d : Dc} (h : ds[i]? = some d) (hf : fiP ds d.name < i) : ¬ (ds.map Dc.name).Nodup := by
  intro hN
  rcases fi_cases ds d.name with ⟨j, x, h1, h2, h3⟩ | ⟨h1, h2⟩
  · rw [h1] at hf
    have hx := List.find?_some h3
    have hx : x.name = d.name := by simpa using hx
    rw [List.Nodup, List.pairwise_iff_getElem] at hN
    have lj := get_lt5 h2
    have li := get_lt5 h
    have := hN j i (by simpa using lj) (by simpa using li) (by omega)
    rw [List.getElem?_eq_getElem lj] at h2
    rw [List.getElem?_eq_getElem li] at h
    cases h2; cases h
    simp at this
    exact this hx
  · unfold deP at h2
    rw [List.find?_eq_none] at h2
    exact h2 d (List.mem_of_getElem? h) (by simp)
theorem find_once {ds : List Dc} (h : ∀ (i : Nat) d, ds[i]? = some d → (i : Int) ≤ fiP ds d.name) : (ds.map Dc.name).Nodup := by
  rw [List.Nodup, List.pairwise_iff_getElem]
  intro i j hi hj hij he
  have li : i < ds.length := by simpa using hi
  have lj : j < ds.length := by simpa using hj
  have h1 := h j _ (List.getElem?_eq_getElem lj)
  simp only [List.getElem_map] at he
  rw [← he] at h1
  have h2 : fiP ds ds[i].name ≤ i := by
    unfold fiP
    have : (ds.findIdx? (fun d => d.name == ds[i].name)).isSome := by
      rw [List.findIdx?_isSome]
      simp only [List.any_eq_true, beq_iff_eq]
      exact ⟨_, List.getElem_mem li, rfl⟩
    cases hf : ds.findIdx? (fun d => d.name == ds[i].name) with
    | none => rw [hf] at this; cases this
    | some m =>
      have hm := (List.findIdx?_eq_some_iff_getElem.1 hf)
      obtain ⟨hm1, hm2, hm3⟩ := hm
      rcases Nat.lt_or_ge i m with hlt | hge
      · have := hm3 i hlt
        simp at this
      · show (m : Int) ≤ i
        omega
  omega
end Go.Proofs.YtbejkphekfbfnaaGreat
