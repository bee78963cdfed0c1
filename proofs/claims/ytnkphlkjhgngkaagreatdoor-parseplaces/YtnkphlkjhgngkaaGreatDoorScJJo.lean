/- Two texts, one behind the other, and a text up to a token: their tokens and trees. -/
import Derived.Test.YtnkphlkjhgngkaaGreatDoorPlacMJo
import Derived.Test.YtnkphlkjhgngkaaGreatDoorParAAJo
import Derived.Test.YtnkphlkjhgngkaaGreatDoorPmAJo
namespace Go.Proofs.YtnkphlkjhgngkaaGreatDoor
open Go.RowKit

theorem skipN_app : ∀ (x : List UInt8) (b : Bool) (t : List UInt8), skipN b x < x.length → skipN b (x ++ 10 :: t) = skipN b x
  | [], _, _, h => by simp at h
  | c :: x, true, t, h => by
    rw [List.cons_append]
    unfold skipN at h ⊢
    by_cases hc : remarkP c = true
    · rw [if_pos hc] at h ⊢; rw [if_pos hc, skipN_app x true t (by simpa using h)]
    · rw [if_neg hc] at h ⊢; rw [if_neg hc, skipN_app x false t (by simpa using h)]
  | c :: x, false, t, h => by
    rw [List.cons_append]
    unfold skipN at h ⊢
    by_cases hc : blankP c = true
    · rw [if_pos hc] at h ⊢; rw [if_pos hc, skipN_app x false t (by simpa using h)]
    · rw [if_neg hc] at h ⊢; rw [if_neg hc]
      have hh : (x ++ 10 :: t).head? == some 47 ↔ x.head? == some 47 := by
        cases x with
        | nil => simp
        | cons d x => simp
      by_cases h3 : (c == 47 && x.head? == some 47) = true
      · have h4 : (c == 47 && (x ++ 10 :: t).head? == some 47) = true := by
          simp only [Bool.and_eq_true] at h3 ⊢
          exact ⟨h3.1, hh.2 h3.2⟩
        rw [if_pos h3] at h ⊢; rw [if_pos h4, skipN_app x true t (by simpa using h)]
      · have h4 : ¬ (c == 47 && (x ++ 10 :: t).head? == some 47) = true := by
          simp only [Bool.and_eq_true] at h3 ⊢
          exact fun h5 => h3 ⟨h5.1, hh.1 h5.2⟩
        rw [if_neg h3, if_neg h4]
theorem skipTo_join {s t : List UInt8} {e : Nat} (he : e ≤ s.length) : skipTo (s ++ 10 :: t) e = if skipTo s e < s.length then skipTo s e else s.length + 1 + skipTo t 0 := by
  have hd : (s ++ 10 :: t).drop e = s.drop e ++ 10 :: t := by rw [List.drop_append_of_le_length he]
  unfold skipTo
  rw [hd]
  have hl : (s.drop e).length = s.length - e := List.length_drop
  have hle := skipTo_le s e he
  unfold skipTo at hle
  split
  · rename_i h
    rw [skipN_app _ _ _ (by rw [hl]; omega)]
  · rename_i h
    have h1 : skipN false (s.drop e) = (s.drop e).length := by rw [hl]; omega
    have h2 := skipN_row (s.drop e) false t
    rw [h1, List.take_length] at h2
    rw [h2, hl, List.drop_zero]; omega
theorem tokL_join {s t : List UInt8} {a e : Nat} {kd : Int} {x : List UInt8} {n : Int} (ha : a < s.length) (h : tokL s a = some (kd, x, n, e)) : tokL (s ++ 10 :: t) a = some (kd, x, n, e) := by
  rw [tokL_drop] at h ⊢
  have hd : (s ++ 10 :: t).drop a = s.drop a ++ 10 :: t := by rw [List.drop_append_of_le_length (by omega)]
  rw [hd]
  cases hy : tokL (s.drop a) 0 with
  | none => rw [hy] at h; cases h
  | some q =>
    obtain ⟨kd', t', n', e'⟩ := q
    rw [hy] at h
    have hl : (s.drop a).length = s.length - a := List.length_drop
    have he' := tokL_end (l := s.drop a) (k := 0) (by omega) hy
    have hc := tokL_cut (m := (s.drop a).length) (Ends.row t) (drop_ne ha) hy he'.2
    rw [List.take_length] at hc
    rw [hc]; exact h
/-- A token's place, so much further on. -/
def shTk (k : Nat) (u : TkA) : TkA := (u.1, u.2.1, u.2.2.1, u.2.2.2 + k)
theorem run_shift (P t : List UInt8) : ∀ (us : List TkA) (b : Nat), Run t b us → Run (P ++ t) (P.length + b) (us.map (shTk P.length))
  | [], b, h => by
    have h' : t.length ≤ b := h
    show (P ++ t).length ≤ P.length + b
    rw [List.length_append]; omega
  | u :: us, b, h => by
    obtain ⟨h1, hb, e, ht, h2⟩ := h
    have hd : ∀ k, (P ++ t).drop (P.length + k) = t.drop k := fun k => by rw [List.drop_append]; simp
    refine ⟨by show u.2.2.2 + P.length = P.length + b; omega, by rw [List.length_append]; omega, P.length + e, ?_, ?_⟩
    · rw [tokL_drop, hd]
      rw [tokL_drop] at ht
      cases hy : tokL (t.drop b) 0 with
      | none => rw [hy] at ht; cases ht
      | some q =>
        obtain ⟨kd', t', n', e'⟩ := q
        rw [hy] at ht
        simp only [shT] at ht ⊢
        injection ht with ht
        injection ht with q1 ht
        injection ht with q2 ht
        injection ht with q3 q4
        rw [q1, q2, q3, ← q4, ← Nat.add_assoc]; rfl
    · have : skipTo (P ++ t) (P.length + e) = P.length + skipTo t e := by unfold skipTo; rw [hd]; omega
      rw [this]
      exact run_shift P t us _ h2
theorem runs_join (s t : List UInt8) (us : List TkA) (hu : Run t (skipTo t 0) us) : ∀ (ts : List TkA) (a : Nat), Run s a ts → Run (s ++ 10 :: t) (if a < s.length then a else s.length + 1 + skipTo t 0) (ts ++ us.map (shTk (s.length + 1)))
  | [], a, h => by
    have h' : s.length ≤ a := h
    rw [if_neg (by omega), List.nil_append]
    have := run_shift (s ++ [10]) t us _ hu
    rw [List.length_append, List.append_assoc] at this
    exact this
  | v :: ts, a, h => by
    obtain ⟨h1, ha, e, ht, h2⟩ := h
    have he := tokL_end ha ht
    rw [if_pos ha, List.cons_append]
    refine ⟨h1, by rw [List.length_append]; omega, e, tokL_join ha ht, ?_⟩
    rw [skipTo_join he.2]
    exact runs_join s t us hu ts _ h2
theorem scanF_over (l : List UInt8) : ∀ (us : List TkA) (f a : Nat) (acc : List TkA), l.length - a < f → acc.length ≤ 20000 → 20000 < acc.length + us.length → Run l a us → (scanF l f a acc).2.2 = 4
  | [], f, a, acc, _, h1, h2, _ => by simp at h2; omega
  | u :: us, f, a, acc, hf, h1, h2, h => by
    obtain ⟨h3, ha, e, ht, h4⟩ := h
    obtain ⟨f, rfl⟩ : ∃ g, f = g + 1 := ⟨f - 1, by omega⟩
    have he := tokL_end ha ht
    have hs := skipTo_ge l e
    by_cases hl : acc.length = 20000
    · rw [scanF_large (Nat.succ_pos _) ha hl]
    · rw [scanF_step ha hl ht]
      exact scanF_over l us f _ _ (by omega) (by simp; omega) (by simp at h2 ⊢; omega) h4
theorem scan_len {l : List UInt8} (h : (scanRes l).2.2 = 0) : l.length ≤ 65536 := by
  unfold scanRes at h
  split at h
  · cases h
  · omega
theorem scan_run {l : List UInt8} (h : (scanRes l).2.2 = 0) : Run l (skipTo l 0) (scanRes l).1 := by
  have := run_of_scan (l := l) (ts := (scanRes l).1) (m := (scanRes l).2.1) (scan_len h) (by rw [← h])
  exact this
theorem scan_join {s t : List UInt8} (hs : (scanRes s).2.2 = 0) (ht : (scanRes t).2.2 = 0) (hl : s.length + 1 + t.length ≤ 65536) :
    (scanRes (s ++ 10 :: t)).2.2 = 4 ∨ scanRes (s ++ 10 :: t) = ((scanRes s).1 ++ (scanRes t).1.map (shTk (s.length + 1)), 0, 0) := by
  have r := runs_join s t _ (scan_run ht) _ _ (scan_run hs)
  rw [← skipTo_join (Nat.zero_le _)] at r
  have hL : (s ++ 10 :: t).length ≤ 65536 := by simp; omega
  by_cases hn : ((scanRes s).1 ++ (scanRes t).1.map (shTk (s.length + 1))).length ≤ 20000
  · exact .inr (scan_of_run hL hn r)
  · refine .inl ?_
    unfold scanRes
    rw [if_neg (by omega)]
    exact scanF_over _ _ _ _ _ (by omega) (by simp) (by simpa using hn) r
theorem seg_ne {l : List UInt8} {a e : Nat} (h : a < e) (ha : a < l.length) : seg l a e ≠ [] := fun h0 => by
  have := congrArg List.length h0
  unfold seg at this
  rw [List.length_take, List.length_drop] at this
  simp at this; omega
/-- A mark or a word has a text. -/
theorem tokL_text {l : List UInt8} {a e : Nat} {kd : Int} {t : List UInt8} {n : Int} (ha : a < l.length) (h : tokL l a = some (kd, t, n, e)) (hk : kd = 4 ∨ kd = 5) : t ≠ [] := by
  have he := tokL_end ha h
  unfold tokL at h
  split at h
  · unfold nameL at h
    split at h
    · cases h
    · injection h with h; injection h with _ h; injection h with h1 h; injection h with _ h
      rw [← h1]; rw [h]; exact seg_ne he.1 ha
  · split at h
    · unfold numL at h
      split at h
      · cases h
      · split at h
        · cases h
        · split at h
          · cases h
          · injection h with h; injection h with h1 _; omega
    · split at h
      · unfold textL at h
        split at h
        · injection h with h; injection h with h1 _; omega
        · cases h
      · unfold markL at h
        split at h
        · injection h with h; injection h with _ h; injection h with h1 _
          rw [← h1]; exact seg_ne (by omega) ha
        · split at h
          · injection h with h; injection h with _ h; injection h with h1 _
            rw [← h1]; exact seg_ne (by omega) ha
          · cases h
/-- What each token of a text is. -/
theorem run_mem {l : List UInt8} : ∀ (us : List TkA) (a : Nat), Run l a us → ∀ u ∈ us, u.2.2.2 < l.length ∧ ∃ e, tokL l u.2.2.2 = some (u.1, u.2.1, u.2.2.1, e)
  | [], _, _, u, hu => by cases hu
  | v :: us, a, h, u, hu => by
    obtain ⟨h1, ha, e, ht, h2⟩ := h
    rcases List.mem_cons.1 hu with rfl | hu
    · rw [h1]; exact ⟨ha, e, ht⟩
    · exact run_mem us _ h2 u hu
theorem scan_marks {l : List UInt8} (h : (scanRes l).2.2 = 0) (n : Nat) : ∀ i, i < (scanRes l).1.length → isM (withEnd (scanRes l).1 n) i [] = false := fun i hi => by
  obtain ⟨ha, e, ht⟩ := run_mem _ _ (scan_run h) ((scanRes l).1[i]) (List.getElem_mem hi)
  cases hm : isM (withEnd (scanRes l).1 n) i [] with
  | false => rfl
  | true =>
    exfalso
    simp only [isM, kindA, textA, withEnd_at _ _ hi, Bool.and_eq_true, Bool.or_eq_true, beq_iff_eq] at hm
    exact tokL_text ha ht hm.1 hm.2
theorem parseP_some {l : List UInt8} {t : Tr} {a : Nat} {er : Int} (h : parseP l = (some t, a, er)) : (scanRes l).2.2 = 0 ∧ smallT t = true ∧ a = 0 ∧ er = 0 ∧ ∃ j, treeR (withEnd (scanRes l).1 l.length) = .ok t j := by
  unfold parseP at h
  split at h
  · cases h
  · rename_i h0
    cases hT : treeR ((scanRes l).1 ++ [(4, [], 0, l.length)]) with
    | bad j => rw [hT] at h; cases h
    | ok u j =>
      rw [hT] at h
      simp only at h
      split at h
      · rename_i hs
        injection h with h1 h2
        injection h1 with h1
        injection h2 with h2 h3
        subst h1
        exact ⟨by simpa using h0, hs, h2.symm, h3.symm, j, hT⟩
      · cases h
/-- Two programs' texts, one behind the other. -/
theorem parse_join {s t : List UInt8} {n m : Tr} (hs : parseP s = (some n, 0, 0)) (ht : parseP t = (some m, 0, 0)) (hl : s.length + 1 + t.length ≤ 65536) :
    (∃ a, parseP (s ++ 10 :: t) = (none, a, 4)) ∨ parseP (s ++ 10 :: t) = (some (.mk 1 [] 0 (n.kids ++ m.kids)), 0, 0) := by
  obtain ⟨s0, _, _, _, j1, s1⟩ := parseP_some hs
  obtain ⟨t0, _, _, _, j2, t1⟩ := parseP_some ht
  rcases scan_join s0 t0 hl with h | h
  · refine .inl ⟨(scanRes (s ++ 10 :: t)).2.1, ?_⟩
    unfold parseP
    rw [if_pos (by rw [h]; decide), h]
  · obtain ⟨j, hj⟩ := treeR_join (n := (s ++ 10 :: t).length) (vs := (scanRes t).1.map (shTk (s.length + 1))) (scan_marks s0 _) (by simp) (fun k a b ha hb => by
      rw [List.getElem?_map, ha] at hb
      cases hb; exact ⟨rfl, rfl, rfl⟩) s1 t1
    unfold parseP
    rw [h, if_neg (by simp)]
    have hj' : treeR (((scanRes s).1 ++ (scanRes t).1.map (shTk (s.length + 1))) ++ [(4, [], 0, (s ++ 10 :: t).length)]) = .ok (.mk 1 [] 0 (n.kids ++ m.kids)) j := hj
    simp only [hj']
    split
    · exact .inr rfl
    · exact .inl ⟨0, rfl⟩
end Go.Proofs.YtnkphlkjhgngkaaGreatDoor
