/- The document's Most and Order of ranges. -/
import Derived.Test.YtmkeahfdbmfajaaSxV
import Derived.Test.YtmkeahfdbmfajaaSxP
namespace Go.Proofs.Ytmkeahfdbmfajaa
open Go.RowKit
/-- A number that is being put into its place. -/
def io (s : List Nat) (k x : Nat) : List Nat := s.take k ++ x :: s.drop k
theorem io_len (s : List Nat) (k x : Nat) : (io s k x).length = s.length + 1 := by unfold io; simp; omega
theorem io_full (s : List Nat) (x : Nat) : io s s.length x = s ++ [x] := by unfold io; simp
theorem io_at {s : List Nat} {k : Nat} (x : Nat) (h : k ≤ s.length) : (io s k x)[k]? = some x := by
  unfold io
  rw [List.getElem?_append_right (by simp; omega)]
  simp [Nat.min_eq_left h]
theorem io_prev {s : List Nat} {k y : Nat} (x : Nat) (h : s[k]? = some y) : (io s (k + 1) x)[k]? = some y := by
  have hk := (List.getElem?_eq_some_iff.mp h).1
  unfold io
  rw [List.getElem?_append_left (by simp; omega), List.getElem?_take, if_pos (by omega), h]
theorem io_swap {s : List Nat} {k y : Nat} (x : Nat) (h : s[k]? = some y) : ((io s (k + 1) x).set (k + 1) y).set k x = io s k x := by
  have hk := (List.getElem?_eq_some_iff.mp h).1
  unfold io
  have e1 : s.take (k + 1) = s.take k ++ [y] := by rw [List.take_add_one, h]; rfl
  have e2 : s.drop k = y :: s.drop (k + 1) := by
    rw [List.drop_eq_getElem_cons hk]
    have := (List.getElem?_eq_some_iff.mp h).2
    rw [this]
  have hl : (s.take k).length = k := by rw [List.length_take]; omega
  rw [e1, e2, List.append_assoc]
  rw [List.set_append_right _ _ (by omega), hl, show k + 1 - k = 1 by omega]
  rw [List.set_append_right _ _ (by omega), hl, Nat.sub_self]
  rfl
theorem io_perm {s : List Nat} {k x : Nat} (hs : s.Perm (List.range x)) : (io s k x).Perm (List.range (x + 1)) := by
  unfold io
  rw [List.range_succ]
  refine (List.perm_middle).trans ?_
  rw [List.take_append_drop]
  exact (List.perm_append_singleton x s).symm.trans (List.Perm.append_right _ hs)
theorem io_sorted {l : List Rg} {s : List Nat} {k x : Nat} (hkl : k ≤ s.length) (hp : s.Pairwise (Le2 l)) (hx : ∀ a ∈ s, a < x) (hd : ∀ b ∈ s.drop k, kf l x < kf l b) (hk : ∀ a, s[k - 1]? = some a → 0 < k → kf l a ≤ kf l x) : (io s k x).Pairwise (Le2 l) := by
  unfold io
  have h0 := hp
  rw [← List.take_append_drop k s, List.pairwise_append] at hp
  obtain ⟨h1, h2, h3⟩ := hp
  have ht : ∀ a ∈ s.take k, kf l a ≤ kf l x := fun a ha => by
    obtain ⟨i, hi⟩ := List.getElem?_of_mem ha
    rw [List.getElem?_take] at hi
    split at hi
    · rename_i hik
      obtain ⟨hil, e1⟩ := List.getElem?_eq_some_iff.mp hi
      have hkl2 : k - 1 < s.length := by omega
      have hb := hk s[k - 1] (by simp [hkl2]) (by omega)
      by_cases e : i = k - 1
      · subst e; rw [e1] at hb; exact hb
      · have := List.pairwise_iff_getElem.mp h0 i (k - 1) hil hkl2 (by omega)
        rw [e1] at this
        unfold Le2 at this
        omega
    · cases hi
  rw [List.pairwise_append, List.pairwise_cons]
  refine ⟨h1, ⟨fun b hb => .inl (hd b hb), h2⟩, fun a ha b hb => ?_⟩
  rcases List.mem_cons.mp hb with rfl | hb
  · have := ht a ha
    have := hx a (List.mem_of_mem_take ha)
    unfold Le2
    omega
  · exact h3 a ha b hb
/-- Of the first ranges. -/
def rnk (l : List Rg) (i k : Nat) : Nat := (List.range k).countP fun k => decide (kf l k ≤ kf l i) && decide (kf l i < kt l k)
theorem rnk_succ (l : List Rg) (i k : Nat) : rnk l i (k + 1) = rnk l i k + if (decide (kf l k ≤ kf l i) && decide (kf l i < kt l k)) = true then 1 else 0 := by
  unfold rnk
  rw [List.range_succ, List.countP_append, List.countP_singleton]
theorem rnk_le (l : List Rg) (i k : Nat) : rnk l i k ≤ k := by
  have := List.countP_le_length (p := fun k => decide (kf l k ≤ kf l i) && decide (kf l i < kt l k)) (l := List.range k)
  rw [List.length_range] at this
  exact this
theorem rmo_bound (l : List Rg) : ∀ k, rmo l k ≤ l.length
  | 0 => Nat.zero_le _
  | k + 1 => by have := rmo_bound l k; have := rnk_le l k l.length; simp only [rmo]; unfold rnk at *; unfold rn; omega
section
variable {w : World}
set_option maxRecDepth 20000 in
set_option maxHeartbeats 2000000 in
theorem rmost_any {v : Value} {l : List Rg} (R : RgsAt w v l) (hl : l.length ≤ 20000) : Calls Try.prog 13 #[v] w fun e w' => e = .returned (.int .i64 (rmo l l.length : Nat)) ∧ Below w.heap.size w w' := by
  have HR := hide R
  obtain ⟨ao, cap, rfl⟩ := R.slice
  obtain ⟨n, hn⟩ : ∃ n, l.length = n := ⟨_, rfl⟩
  have HN := hide hn
  rw [hn] at hl HR ⊢
  clear R hn
  have hn2 : (n : Int) ≤ 20000 := by omega
  go_enter Try.func13, Try.ntmps13
  go_wp2
  go_loopw [3, 4] (fun m i wr => ∃ j q : Nat, j ≤ n ∧ i = .int .i64 j ∧ m = .int .i64 (rmo l j : Nat) ∧ wr = w.drewN q) (fun _ i _ => n - (intOf i).toNat)
  case atStart => exact ⟨0, 0, Nat.zero_le _, rfl, rfl, rfl⟩
  case round =>
    obtain ⟨j, q, hj, rfl, rfl, rfl⟩ := hrel
    by_cases hlt : j < n
    · obtain ⟨p, hp⟩ : ∃ p, l[j]? = some p := ⟨l[j]'(by rw [HN.out]; exact hlt), by simp⟩
      obtain ⟨g, o, rfl, hg, c0, c1⟩ := HR.out.cell hp
      have bj : (j : Int) < (n : Int) := by omega
      have hmb := rmo_bound l j
      rw [HN.out] at hmb
      have HRM : Hid (rmo l (j + 1) = max (rmo l j) (rnk l j n)) := hide (by simp only [rmo]; unfold rnk rn; rw [HN.out])
      obtain ⟨m0, hm0⟩ : ∃ m0, rmo l j = m0 := ⟨_, rfl⟩
      rw [hm0] at HRM hmb ⊢
      have HP := hide hp
      clear hp hm0
      go_wp2
      go_loopw [5, 6] (fun c k wi => ∃ k2 q2 : Nat, k2 ≤ n ∧ k = .int .i64 k2 ∧ c = .int .i64 (rnk l j k2 : Nat) ∧ wi = w.drewN q2) (fun _ k _ => n - (intOf k).toNat)
      case atStart => exact ⟨0, q, Nat.zero_le _, rfl, rfl, rfl⟩
      case round =>
        obtain ⟨k2, q2, hk2, rfl, rfl, rfl⟩ := hrel
        have hcb := rnk_le l j k2
        by_cases hkn : k2 < n
        · obtain ⟨r, hr⟩ : ∃ r, l[k2]? = some r := ⟨l[k2]'(by rw [HN.out]; exact hkn), by simp⟩
          obtain ⟨g', o', e', hg', d0, d1⟩ := HR.out.cell hr
          cases e'
          have bk : (k2 : Int) < (n : Int) := by omega
          have hrs := rnk_succ l j k2
          rw [kf_get hr, kt_get hr, kf_get HP.out] at hrs
          have HRS := hide hrs
          obtain ⟨cc, hcc⟩ : ∃ cc, rnk l j k2 = cc := ⟨_, rfl⟩
          rw [hcc] at HRS hcb ⊢
          clear hrs hr hcc
          by_cases h1 : r.fr ≤ p.fr
          · by_cases h2 : p.fr < r.en
            · go_wp2
              go_quiet (fail)
              go_wp2
              go_roundw
              case rel => exact ⟨k2 + 1, q2 + nq, by omega, by go_num, by rw [HRS.out]; simp [h1, h2], rfl⟩
              case measure => simp [intOf]; omega
            · have h2' : decide (p.fr < r.en) = false := by simpa using h2
              have HH : Hid (rnk l j (k2 + 1) = cc) := hide (by rw [HRS.out, if_neg (by simp; omega), Nat.add_zero])
              clear h2
              go_wp2
              go_quiet (fail)
              go_wp2
              go_roundw
              case rel => exact ⟨k2 + 1, q2 + nq, by omega, by go_num, by rw [HH.out], rfl⟩
              case measure => simp [intOf]; omega
          · have h1' : decide (r.fr ≤ p.fr) = false := by simpa using h1
            have HH : Hid (rnk l j (k2 + 1) = cc) := hide (by rw [HRS.out, if_neg (by simp; omega), Nat.add_zero])
            clear h1
            go_wp2
            go_quiet (fail)
            go_wp2
            go_roundw
            case rel => exact ⟨k2 + 1, q2 + nq, by omega, by go_num, by rw [HH.out], rfl⟩
            case measure => simp [intOf]; omega
        · obtain rfl : k2 = n := by omega
          obtain ⟨cc, hcc⟩ : ∃ cc, rnk l j k2 = cc := ⟨_, rfl⟩
          rw [hcc] at HRM hcb ⊢
          clear hcc
          by_cases hgt : m0 < cc
          · have hgt' : (m0 : Int) < (cc : Int) := by omega
            go_wp2
            go_roundw
            case rel => exact ⟨j + 1, q2, by omega, by go_num, by rw [HRM.out, Nat.max_eq_right (by omega)], rfl⟩
            case measure => simp [intOf]; omega
          · have hgt' : decide ((m0 : Int) < (cc : Int)) = false := by simp only [decide_eq_false_iff_not]; omega
            go_wp2
            go_roundw
            case rel => exact ⟨j + 1, q2, by omega, by go_num, by rw [HRM.out, Nat.max_eq_left (by omega)], rfl⟩
            case measure => simp [intOf]; omega
    · obtain rfl : j = n := by omega
      go_wp2
      go_ret
      exact ⟨rfl, below_drewN (Below.refl _ _) q⟩
end
end Go.Proofs.Ytmkeahfdbmfajaa
