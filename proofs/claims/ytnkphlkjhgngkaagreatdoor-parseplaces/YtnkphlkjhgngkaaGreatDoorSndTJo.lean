/- A sound tree's texts are short. -/
import Derived.Test.YtnkphlkjhgngkaaGreatDoorSndHJo
namespace Go.Proofs.YtnkphlkjhgngkaaGreatDoor

abbrev Tx (t : Tr) : Prop := ∀ n, txtT n t
theorem tx_of {t : Tr} (h : t.text.length ≤ 1024) (hk : ∀ k ∈ t.kids, Tx k) : Tx t := fun n => by
  cases n with
  | zero => trivial
  | succ n => exact ⟨by unfold maxLen; omega, fun k hm => hk k hm n⟩
def Kd (r : Q → Tr → Bool) (t : Tr) : Prop := t.text.length ≤ 1024 ∧ ∀ k ∈ t.kids, ∃ q, r q k = true
theorem rowB_mem : ∀ {ps : List (Tr → Bool)} {ts : List Tr}, rowB ps ts = true → ∀ t ∈ ts, ∃ p ∈ ps, p t = true
  | [], [], _, t, ht => by cases ht
  | p :: ps, t :: ts, h, u, hu => by
    simp only [rowB, Bool.and_eq_true] at h
    rcases List.mem_cons.1 hu with rfl | hu
    · exact ⟨p, by simp, h.1⟩
    · obtain ⟨q, hq, e⟩ := rowB_mem h.2 u hu
      exact ⟨q, by simp [hq], e⟩
  | [], _ :: _, h, _, _ => by simp [rowB] at h
  | _ :: _, [], h, _, _ => by simp [rowB] at h
theorem parted_mem {ts : List Tr} {n : Int} {p q : Tr → Bool} (h : partedB ts n p q = true) : ∀ t ∈ ts, p t = true ∨ q t = true := fun t ht => by
  simp only [partedB, Bool.and_eq_true] at h
  rw [← List.take_append_drop n.toNat ts] at ht
  rcases List.mem_append.1 ht with h1 | h1
  · exact .inl (List.all_eq_true.1 h.2.2.1 t h1)
  · exact .inr (List.all_eq_true.1 h.2.2.2 t h1)
section
variable {r : Q → Tr → Bool} {t : Tr} {ts : List Tr} {a b c : Q}
theorem row0 {p : Tr → Prop} (h : rowB [] ts = true) : ∀ k ∈ ts, p k := fun k hk => by obtain ⟨p, hp, _⟩ := rowB_mem h k hk; cases hp
theorem row1 (h : rowB [r a] ts = true) : ∀ k ∈ ts, ∃ q, r q k = true := fun k hk => by
  obtain ⟨p, hp, e⟩ := rowB_mem h k hk
  simp at hp; subst hp; exact ⟨_, e⟩
theorem row2 (h : rowB [r a, r b] ts = true) : ∀ k ∈ ts, ∃ q, r q k = true := fun k hk => by
  obtain ⟨p, hp, e⟩ := rowB_mem h k hk
  simp at hp; rcases hp with rfl | rfl <;> exact ⟨_, e⟩
theorem row3 (h : rowB [r a, r b, r c] ts = true) : ∀ k ∈ ts, ∃ q, r q k = true := fun k hk => by
  obtain ⟨p, hp, e⟩ := rowB_mem h k hk
  simp at hp; rcases hp with rfl | rfl | rfl <;> exact ⟨_, e⟩
theorem all1 (h : ts.all (r a) = true) : ∀ k ∈ ts, ∃ q, r q k = true := fun k hk => ⟨_, List.all_eq_true.1 h k hk⟩
theorem part2 {n : Int} (h : partedB ts n (r a) (r b) = true) : ∀ k ∈ ts, ∃ q, r q k = true := fun k hk => by rcases parted_mem h k hk with e | e <;> exact ⟨_, e⟩
theorem nameP_len {s : List UInt8} (h : nameP s = true) : s.length ≤ 1024 := by
  unfold nameP at h
  split at h
  · cases h
  · rename_i h1; omega
theorem named_len (h : namedT t = true) : t.text.length ≤ 1024 := by simp only [namedT, Bool.and_eq_true] at h; exact nameP_len h.2
theorem bare_len (h : bareT t = true) : t.text.length ≤ 1024 := by simp only [bareT, Bool.and_eq_true, beq_iff_eq] at h; rw [h.1]; simp
theorem numb_len (h : numberedT t = true) : t.text.length ≤ 1024 := by simp only [numberedT, beq_iff_eq] at h; rw [h]; simp
theorem prefix_len {s : List UInt8} (h : prefixL s = true) : s.length ≤ 1024 := by
  simp only [prefixL, Bool.or_eq_true, beq_iff_eq] at h
  rcases h with ((h | h) | h) | h <;> rw [h] <;> simp
theorem rank_len {s : List UInt8} (h : 0 < rankL s) : s.length ≤ 1024 := by
  rcases Nat.lt_or_ge s.length 3 with h1 | h1
  · omega
  · exfalso
    have hn : ∀ u : List UInt8, u.length < 3 → (s == u) = false := fun u hu => by
      rw [beq_eq_false_iff_ne]; intro e; rw [e] at h1; omega
    simp [rankL, hn] at h
theorem typB_k (h : typB r t = true) : Kd r t := by
  unfold typB at h
  split at h
  · simp only [Bool.and_eq_true] at h; exact ⟨named_len h.1, row0 h.2⟩
  · split at h
    · simp only [Bool.and_eq_true] at h; exact ⟨bare_len h.1, row1 h.2⟩
    · split at h
      · simp only [Bool.and_eq_true] at h; exact ⟨numb_len h.1, part2 h.2⟩
      · cases h
theorem parB_k (h : parB r t = true) : Kd r t := by simp only [parB, Bool.and_eq_true] at h; exact ⟨named_len h.2.1, row1 h.2.2⟩
theorem sigB_k (h : sigB r t = true) : Kd r t := by simp only [sigB, Bool.and_eq_true] at h; exact ⟨numb_len h.2.1, part2 h.2.2⟩
theorem blkB_k (h : blkB r t = true) : Kd r t := by simp only [blkB, Bool.and_eq_true] at h; exact ⟨bare_len h.2.1, all1 h.2.2⟩
theorem ifB_k (h : ifB r t = true) : Kd r t := by
  simp only [ifB, Bool.and_eq_true, Bool.or_eq_true] at h
  exact ⟨bare_len h.2.1, h.2.2.elim (fun e => row2 e) (fun e => row3 e)⟩
theorem elsB_k (h : elsB r t = true) : Kd r t := by
  simp only [elsB, Bool.or_eq_true] at h
  rcases h with h | h
  · exact blkB_k h
  · exact ifB_k h
theorem asgB_k {p : Tr → Bool} (h : asgB r p t = true) : Kd r t := by simp only [asgB, Bool.and_eq_true] at h; exact ⟨numb_len h.1, all1 h.2.2.2.2⟩
theorem stmB_k (h : stmB r t = true) : Kd r t := by
  unfold stmB at h
  split at h
  · exact blkB_k h
  · split at h
    · exact ifB_k h
    · split at h
      · simp only [Bool.and_eq_true, Bool.or_eq_true] at h; exact ⟨named_len h.1, h.2.elim (fun e => row1 e) (fun e => row2 e)⟩
      · split at h
        · exact asgB_k h
        · split at h
          · exact asgB_k h
          · split at h
            · simp only [Bool.and_eq_true] at h; exact ⟨bare_len h.1, row1 h.2.2⟩
            · split at h
              · simp only [Bool.and_eq_true, Bool.or_eq_true] at h; exact ⟨bare_len h.1, h.2.elim (fun e => row1 e) (fun e => row2 e)⟩
              · split at h
                · simp only [Bool.and_eq_true] at h; exact ⟨bare_len h.1, all1 h.2⟩
                · split at h
                  · simp only [Bool.and_eq_true] at h; exact ⟨bare_len h.1, row0 h.2⟩
                  · cases h
theorem leafB_k (h : leafB t = true) : Kd r t := by
  unfold leafB at h
  split at h
  · cases h
  · rename_i h0
    have e : t.kids = [] := List.eq_nil_of_length_eq_zero (by omega)
    refine ⟨?_, fun k hk => by rw [e] at hk; cases hk⟩
    split at h
    · simp only [Bool.and_eq_true] at h; exact numb_len h.1
    · split at h
      · simp only [Bool.and_eq_true, decide_eq_true_eq] at h; exact h.2
      · split at h
        · simp only [Bool.and_eq_true] at h; exact numb_len h.1
        · split at h
          · exact named_len h
          · exact bare_len h
theorem expB_k (h : expB r t = true) : Kd r t := by
  unfold expB at h
  split at h
  · exact leafB_k h
  · split at h
    · simp only [Bool.and_eq_true] at h; exact ⟨named_len h.1, all1 h.2⟩
    · split at h
      · simp only [Bool.and_eq_true] at h; exact ⟨bare_len h.1, part2 h.2⟩
      · split at h
        · simp only [Bool.and_eq_true] at h; exact ⟨bare_len h.1, row2 h.2⟩
        · split at h
          · simp only [Bool.and_eq_true] at h; exact ⟨named_len h.1, row1 h.2⟩
          · split at h
            · simp only [Bool.and_eq_true] at h; exact ⟨bare_len h.1, row2 h.2⟩
            · split at h
              · simp only [Bool.and_eq_true] at h; exact ⟨numb_len h.1, all1 h.2.2⟩
              · split at h
                · simp only [Bool.and_eq_true] at h; exact ⟨bare_len h.1, all1 h.2.2⟩
                · split at h
                  · simp only [Bool.and_eq_true] at h; exact ⟨prefix_len h.2.1, row1 h.2.2⟩
                  · split at h
                    · simp only [Bool.and_eq_true, decide_eq_true_eq] at h; exact ⟨rank_len h.2.1, row2 h.2.2⟩
                    · cases h
end
theorem snd_tx : ∀ m q t, snd m q t = true → Tx t
  | 0, _, _, h => by simp [snd] at h
  | m + 1, q, t, h => by
    have k : Kd (snd m) t := by
      cases q with
      | typ => exact typB_k h
      | par => exact parB_k h
      | sig => exact sigB_k h
      | blk => exact blkB_k h
      | ifS => exact ifB_k h
      | els => exact elsB_k h
      | stm => exact stmB_k h
      | exp => exact expB_k h
    exact tx_of k.1 fun u hu => by obtain ⟨q', e⟩ := k.2 u hu; exact snd_tx m q' u e
theorem kd_tx {m : Nat} {t : Tr} (k : Kd (snd m) t) : Tx t := tx_of k.1 fun u hu => by obtain ⟨q', e⟩ := k.2 u hu; exact snd_tx m q' u e
theorem fldB_tx {m : Nat} {t : Tr} (h : fldB (snd m) t = true) : Tx t := by simp only [fldB, Bool.and_eq_true] at h; exact kd_tx ⟨named_len h.2.1, row1 h.2.2⟩
theorem metB_tx {m : Nat} {t : Tr} (h : metB (snd m) t = true) : Tx t := by simp only [metB, Bool.and_eq_true] at h; exact kd_tx ⟨named_len h.2.1, row1 h.2.2⟩
theorem recB_tx {m : Nat} {t : Tr} (h : recB (snd m) t = true) : Tx t := by simp only [recB, Bool.and_eq_true] at h; exact kd_tx (parB_k h.1)
theorem decB_tx {m : Nat} {t : Tr} (h : decB m t = true) : Tx t := by
  unfold decB at h
  split at h
  · simp only [Bool.and_eq_true] at h; exact tx_of (named_len h.1) fun k hk => fldB_tx (List.all_eq_true.1 h.2 k hk)
  · split at h
    · simp only [Bool.and_eq_true] at h; exact tx_of (named_len h.1) fun k hk => metB_tx (List.all_eq_true.1 h.2 k hk)
    · split at h
      · simp only [Bool.and_eq_true] at h
        exact tx_of (named_len h.1) fun k hk => by
          obtain ⟨p, hp, e⟩ := rowB_mem h.2 k hk
          simp at hp; rcases hp with rfl | rfl <;> exact snd_tx _ _ _ e
      · split at h
        · simp only [Bool.and_eq_true] at h
          exact tx_of (named_len h.1) fun k hk => by
            obtain ⟨p, hp, e⟩ := rowB_mem h.2 k hk
            simp at hp
            rcases hp with rfl | rfl | rfl
            · exact recB_tx e
            · exact snd_tx _ _ _ e
            · exact snd_tx _ _ _ e
        · cases h
theorem sound_tx {t : Tr} (h : soundT t = true) : Tx t := by
  simp only [soundT, prgB, Bool.and_eq_true] at h
  exact tx_of (bare_len h.2.2.1) fun k hk => decB_tx (List.all_eq_true.1 h.2.2.2 k hk)
end Go.Proofs.YtnkphlkjhgngkaaGreatDoor
