/- Where Parse's faults lie, and the text ahead of one. -/
import Derived.Test.YtnkphlkjhgngkaaGreatDoorScJJo
import Derived.Test.YtnkphlkjhgngkaaGreatDoorPmEJo
import Derived.Test.YtnkphlkjhgngkaaGreatDoorSndTJo
namespace Go.Proofs.YtnkphlkjhgngkaaGreatDoor
open Go.RowKit

theorem tok_alone {l : List UInt8} {a e : Nat} {kd : Int} {t : List UInt8} {n : Int} (ha : a < l.length) (ht : tokL l a = some (kd, t, n, e)) : tokL (seg l a e) 0 = some (kd, t, n, e - a) := by
  have he := tokL_end ha ht
  rw [tokL_drop] at ht
  cases hy : tokL (l.drop a) 0 with
  | none => rw [hy] at ht; cases ht
  | some x =>
    obtain ⟨kd', t', n', e'⟩ := x
    rw [hy] at ht
    injection ht with ht
    injection ht with h1 ht
    injection ht with h2 ht
    injection ht with h3 ht
    subst h1; subst h2; subst h3
    have : e' = e - a := by omega
    subst this
    have hc := tokL_cut (m := e - a) Ends.nil (drop_ne ha) hy (Nat.le_refl _)
    rw [List.append_nil] at hc
    exact hc
theorem tokL_kinds {l : List UInt8} {a e : Nat} {kd : Int} {t : List UInt8} {n : Int} (ha : a < l.length) (h : tokL l a = some (kd, t, n, e)) : (kd = 1 → nameP t = true) ∧ (kd = 3 → t.length ≤ 1024) ∧ (kd = 2 → 0 ≤ n) := by
  have he := tokL_end ha h
  have hal := tok_alone ha h
  unfold tokL at h
  split at h
  · unfold nameL at h
    split at h
    · cases h
    · rename_i h64
      injection h with h; injection h with h1 h; injection h with h2 h; injection h with h3 h4
      refine ⟨fun hk => ?_, fun hk => ?_, fun _ => by rw [← h3]; exact Int.le_refl _⟩
      · have hl : t.length = e - a := by rw [← h2, h4]; exact piece_len (by omega) he.2
        have ht : seg l a e = t := by rw [← h2, h4]
        rw [ht] at hal
        unfold nameP
        rw [if_neg (by omega), hal]
        simp [hk, hl]
      · rw [← h1] at hk; unfold kindOf at hk; split at hk <;> cases hk
  · split at h
    · unfold numL at h
      split at h
      · cases h
      · split at h
        · cases h
        · split at h
          · cases h
          · injection h with h; injection h with h1 h; injection h with _ h; injection h with h3 _
            exact ⟨fun hk => by omega, fun hk => by omega, fun _ => by rw [← h3]; exact Int.natCast_nonneg _⟩
    · split at h
      · unfold textL at h
        split at h
        · rename_i t' e' hr
          injection h with h; injection h with h1 h; injection h with h2 h; injection h with h3 _
          refine ⟨fun hk => by omega, fun _ => ?_, fun hk => by omega⟩
          unfold textRes at hr
          split at hr
          · split at hr
            · rename_i hlen
              injection hr with hr; injection hr with hr _
              rw [← h2, ← hr]; exact hlen
            · cases hr
          · cases hr
        · cases h
      · unfold markL at h
        split at h
        · injection h with h; injection h with h1 _
          exact ⟨fun hk => by omega, fun hk => by omega, fun hk => by omega⟩
        · split at h
          · injection h with h; injection h with h1 _
            exact ⟨fun hk => by omega, fun hk => by omega, fun hk => by omega⟩
          · cases h
theorem scan_tks {l : List UInt8} (h : (scanRes l).2.2 = 0) (n : Nat) : Tks (withEnd (scanRes l).1 n) := by
  have key : ∀ i, (kindA (withEnd (scanRes l).1 n) i = 1 → nameP (textA (withEnd (scanRes l).1 n) i) = true) ∧ (kindA (withEnd (scanRes l).1 n) i = 3 → (textA (withEnd (scanRes l).1 n) i).length ≤ 1024) ∧ (kindA (withEnd (scanRes l).1 n) i = 2 → 0 ≤ numA (withEnd (scanRes l).1 n) i) := by
    intro i
    rcases Nat.lt_or_ge i (scanRes l).1.length with hi | hi
    · obtain ⟨ha, e, ht⟩ := run_mem _ _ (scan_run h) ((scanRes l).1[i]) (List.getElem_mem hi)
      have := tokL_kinds ha ht
      simp only [kindA, textA, numA, withEnd_at _ _ hi]; exact this
    · have hk : kindA (withEnd (scanRes l).1 n) i = 4 ∨ kindA (withEnd (scanRes l).1 n) i = 0 := by
        rcases Nat.eq_or_lt_of_le hi with e | e
        · left; rw [← e]; simp [kindA, withEnd_last]
        · right
          have hn : (withEnd (scanRes l).1 n)[i]? = none := List.getElem?_eq_none (by rw [withEnd_len]; omega)
          simp [kindA, tkA, List.getD_eq_getElem?_getD, hn]
      refine ⟨fun e => ?_, fun e => ?_, fun e => ?_⟩ <;> rcases hk with h1 | h1 <;> rw [h1] at e <;> cases e
  exact ⟨fun i => (key i).1, fun i => (key i).2.1, fun i => (key i).2.2⟩
theorem parse_sound {l : List UInt8} {t : Tr} (h : parseP l = (some t, 0, 0)) : soundT t = true := by
  obtain ⟨h0, hs, _, _, j, hj⟩ := parseP_some h
  exact treeR_sound (scan_tks h0 _) hj hs
theorem scanF_code (l : List UInt8) : ∀ f a acc, ((scanF l f a acc).2.2 = 0 ∨ (scanF l f a acc).2.2 = 3 ∨ (scanF l f a acc).2.2 = 4) ∧ (scanF l f a acc).2.1 ≤ l.length
  | 0, a, acc => ⟨.inl rfl, Nat.zero_le _⟩
  | f + 1, a, acc => by
    unfold scanF
    split
    · split
      · exact ⟨.inr (.inr rfl), by show a ≤ _; omega⟩
      · split
        · exact ⟨.inr (.inl rfl), by show a ≤ _; omega⟩
        · exact scanF_code l f _ _
    · exact ⟨.inl rfl, Nat.zero_le _⟩
theorem scan_code (l : List UInt8) : ((scanRes l).2.2 = 0 ∨ (scanRes l).2.2 = 3 ∨ (scanRes l).2.2 = 4 ∨ (scanRes l).2.2 = 13) ∧ (scanRes l).2.1 ≤ l.length := by
  unfold scanRes
  split
  · exact ⟨.inr (.inr (.inr rfl)), Nat.zero_le _⟩
  · obtain ⟨h1, h2⟩ := scanF_code l (l.length + 1) (skipTo l 0) []
    exact ⟨by rcases h1 with h | h | h; exact .inl h; exact .inr (.inl h); exact .inr (.inr (.inl h)), h2⟩
theorem atA_le {l : List UInt8} (h : (scanRes l).2.2 = 0) (j : Nat) (hj : j < (withEnd (scanRes l).1 l.length).length) : atA (withEnd (scanRes l).1 l.length) j ≤ l.length := by
  rw [withEnd_len] at hj
  rcases Nat.lt_or_ge j (scanRes l).1.length with hi | hi
  · obtain ⟨ha, _⟩ := run_mem _ _ (scan_run h) ((scanRes l).1[j]) (List.getElem_mem hi)
    simp only [atA, withEnd_at _ _ hi]; omega
  · have e : j = (scanRes l).1.length := by omega
    rw [e]; simp [atA, withEnd_last]
theorem tree_idx {l : List UInt8} {j : Nat} (h : treeR (withEnd (scanRes l).1 l.length) = .bad j) : j < (withEnd (scanRes l).1 l.length).length := by
  have b : Bd _ (treeR (withEnd (scanRes l).1 l.length)) := progR_b (ended _ _) (ps_b (ended _ _) _) (by rw [withEnd_len]; omega)
  rw [h] at b; exact b
/-- What Parse's answers are, where there is a fault. -/
theorem parse_fault {l : List UInt8} {a : Nat} {er : Int} (h : parseP l = (none, a, er)) : a ≤ l.length ∧ (er = 3 ∨ er = 4 ∨ er = 13) := by
  unfold parseP at h
  split at h
  · rename_i h0
    injection h with _ h; injection h with h1 h2
    obtain ⟨c1, c2⟩ := scan_code l
    rw [h1] at c2; rw [h2] at c1 h0
    exact ⟨c2, by rcases c1 with c | c | c | c; exact absurd c h0; exact .inl c; exact .inr (.inl c); exact .inr (.inr c)⟩
  · rename_i h0
    have h0' : (scanRes l).2.2 = 0 := by simpa using h0
    cases hT : treeR ((scanRes l).1 ++ [(4, [], 0, l.length)]) with
    | bad j =>
      rw [hT] at h
      injection h with _ h; injection h with h1 h2
      rw [← h1, ← h2]
      exact ⟨atA_le h0' j (tree_idx hT), .inl rfl⟩
    | ok u j =>
      rw [hT] at h
      simp only at h
      split at h
      · cases h
      · injection h with _ h; injection h with h1 h2
        rw [← h1, ← h2]; exact ⟨Nat.zero_le _, .inr (.inl rfl)⟩
theorem run_ge {l : List UInt8} : ∀ (us : List TkA) (a : Nat), Run l a us → ∀ u ∈ us, a ≤ u.2.2.2
  | [], _, _, u, hu => by cases hu
  | v :: us, a, h, u, hu => by
    obtain ⟨h1, ha, e, ht, h2⟩ := h
    rcases List.mem_cons.1 hu with rfl | hu
    · omega
    · have := run_ge us _ h2 u hu
      have := tokL_end ha ht
      have := skipTo_ge l e
      omega
theorem run_cut {l : List UInt8} : ∀ (us : List TkA) (a j : Nat) (u : TkA), Run l a us → us[j]? = some u → Run (l.take u.2.2.2) a (us.take j)
  | [], _, _, _, _, hu => by simp at hu
  | v :: us, a, 0, u, h, hu => by
    obtain ⟨h1, _⟩ := h
    simp at hu; subst hu
    show (l.take v.2.2.2).length ≤ a
    rw [List.length_take]; omega
  | v :: us, a, j + 1, u, h, hu => by
    obtain ⟨h1, ha, e, ht, h2⟩ := h
    simp at hu
    have hg := run_ge us _ h2 u (List.mem_of_getElem? hu)
    obtain ⟨hul, _⟩ := run_mem us _ h2 u (List.mem_of_getElem? hu)
    have he := tokL_end ha ht
    have hs := skipTo_ge l e
    rw [List.take_succ_cons]
    refine ⟨h1, by rw [List.length_take]; omega, e, tokL_take ha ht (by omega), ?_⟩
    rw [skipTo_take hg]
    exact run_cut us _ j u h2 hu
/-- With the tokens ahead of a fault alone, the fault is at the end, or there is none, or the tree is too large. -/
theorem parse_cut {l : List UInt8} {a : Nat} (h : parseP l = (none, a, 3)) (hs : (scanRes l).2.2 = 0) (ha : a ≠ l.length) :
    (∃ t, parseP (l.take a) = (some t, 0, 0)) ∨ parseP (l.take a) = (none, a, 3) ∨ parseP (l.take a) = (none, 0, 4) := by
  have hl := scan_len hs
  unfold parseP at h
  rw [if_neg (by rw [hs]; decide)] at h
  cases hT : treeR ((scanRes l).1 ++ [(4, [], 0, l.length)]) with
  | ok u j =>
    rw [hT] at h
    simp only at h
    split at h
    · cases h
    · injection h with _ h; injection h with _ h; cases h
  | bad j =>
    rw [hT] at h
    injection h with _ h; injection h with h1 _
    have hT' : treeR (withEnd (scanRes l).1 l.length) = .bad j := hT
    have hj := tree_idx hT'
    rw [withEnd_len] at hj
    have h1' : atA (withEnd (scanRes l).1 l.length) j = a := h1
    have hj2 : j < (scanRes l).1.length := by
      rcases Nat.lt_or_ge j (scanRes l).1.length with h2 | h2
      · exact h2
      · exfalso; apply ha
        have e : j = (scanRes l).1.length := by omega
        rw [← h1', e]; simp [atA, withEnd_last]
    have ea : ((scanRes l).1[j]).2.2.2 = a := by rw [← h1']; simp only [atA, withEnd_at _ _ hj2]
    have hr := run_cut _ _ j ((scanRes l).1[j]) (scan_run hs) (List.getElem?_eq_getElem hj2)
    rw [ea] at hr
    obtain ⟨hal, _⟩ := run_mem _ _ (scan_run hs) ((scanRes l).1[j]) (List.getElem_mem hj2)
    rw [ea] at hal
    have hsk : skipTo l 0 ≤ a := by
      have := run_ge _ _ (scan_run hs) ((scanRes l).1[j]) (List.getElem_mem hj2)
      rw [ea] at this; exact this
    rw [← skipTo_take hsk] at hr
    have hlen : (l.take a).length = a := by rw [List.length_take]; omega
    have hsc := scan_of_run (l := l.take a) (ts := (scanRes l).1.take j) (by omega) (by have := scanRes_len l; rw [List.length_take]; omega) hr
    have hc := treeR_cut (scanRes l).1 l.length a j (by rw [hT']; rfl) (by omega)
    unfold parseP
    rw [hsc]
    simp only
    rw [if_neg (by decide), hlen]
    cases hT2 : treeR (((scanRes l).1.take j) ++ [(4, [], 0, a)]) with
    | bad k =>
      have hc' : (treeR (((scanRes l).1.take j) ++ [(4, [], 0, a)])).idx = j := hc
      rw [hT2] at hc'
      have e : k = j := hc'
      subst e
      refine .inr (.inl ?_)
      have e2 : atA (withEnd ((scanRes l).1.take k) a) k = a := by
        have := withEnd_last ((scanRes l).1.take k) a
        have hk : ((scanRes l).1.take k).length = k := by rw [List.length_take]; omega
        rw [hk] at this
        simp only [atA, this]
      have e3 : atA (((scanRes l).1.take k) ++ [(4, [], 0, a)]) k = a := e2
      simp only [e3]
    | ok u k =>
      simp only
      split
      · exact .inl ⟨u, rfl⟩
      · exact .inr (.inr rfl)
end Go.Proofs.YtnkphlkjhgngkaaGreatDoor
