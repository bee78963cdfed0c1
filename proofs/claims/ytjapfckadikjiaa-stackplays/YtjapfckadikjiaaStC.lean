/- Addr and Frames. -/
import Derived.Test.YtjapfckadikjiaaStB
namespace Go.Proofs.Ytjapfckadikjiaa
open Go.RowKit

theorem addr_nil (x y : Int) (w : World) : Calls Try.prog 14 #[.pointer none, .int .i64 x, .int .i64 y] w fun e w' => e = two (0, 1) ∧ w' = w := by
  go_enter Try.func14, Try.ntmps14
  go_wp2
  go_ret2
  exact ⟨rfl, rfl⟩
theorem frames_nil (w : World) : Calls Try.prog 23 #[.pointer none] w fun e w' => e = .returned (.slice none 0 0) ∧ w' = w := by
  go_enter Try.func23, Try.ntmps23
  go_wp2
  go_ret
  exact ⟨rfl, rfl⟩
/-- The frame and the word of Addr's arguments. -/
def adr (s : Sk) (x y : Int) : Option (Nat × Nat) := if 0 ≤ x ∧ 0 ≤ y ∧ x < s.fr.length ∧ y < ((s.fr[x.toNat]?).getD []).length then some (x.toNat, y.toNat) else none
def addrP (s : Sk) (x y : Int) : Int × Int :=
  match adr s x y with
  | none => (0, 6)
  | some (i, k) => (s.base + pre s.fr i + k, 0)
theorem adr_some {s : Sk} {x y : Int} {i k : Nat} (h : adr s x y = some (i, k)) : x = i ∧ y = k ∧ ∃ f, s.fr[i]? = some f ∧ k < f.length := by
  unfold adr at h
  split at h
  · rename_i h1
    simp at h
    obtain ⟨rfl, rfl⟩ := h
    have h2 : x.toNat < s.fr.length := by omega
    have h3 := h1.2.2.2
    rw [List.getElem?_eq_getElem h2] at h3
    exact ⟨by omega, by omega, _, List.getElem?_eq_getElem h2, by simp at h3; omega⟩
  · cases h
theorem adr_none {s : Sk} {x y : Int} (h : adr s x y = none) : x < 0 ∨ (s.fr.length : Int) ≤ x ∨ ∃ (i : Nat) (f : List Wo), x = i ∧ s.fr[i]? = some f ∧ (y < 0 ∨ (f.length : Int) ≤ y) := by
  unfold adr at h
  split at h
  · cases h
  · rename_i h1
    by_cases h2 : x < 0
    · exact .inl h2
    · by_cases h3 : (s.fr.length : Int) ≤ x
      · exact .inr (.inl h3)
      · right; right
        have h4 : x.toNat < s.fr.length := by omega
        refine ⟨x.toNat, s.fr[x.toNat], by omega, List.getElem?_eq_getElem h4, ?_⟩
        rw [List.getElem?_eq_getElem h4] at h1
        simp at h1
        omega
theorem adr_mk {s : Sk} {i k : Nat} {f : List Wo} (hf : s.fr[i]? = some f) (hk : k < f.length) : adr s i k = some (i, k) := by
  have := get_lt hf
  unfold adr
  rw [if_pos (by simp [hf]; omega)]
  simp
section
variable {X : Sx} {s : Sk}
set_option maxHeartbeats 2000000 in
theorem addr_any (x y : Int) (w : World) (L : Sl X w s) (I : SInv s) :
    Calls Try.prog 14 #[X.p, .int .i64 x, .int .i64 y] w fun e w' => e = two (addrP s x y) ∧ Below w.heap.size w w' := by
  have c3 := L.c3
  obtain ⟨ao, cap, hv⟩ := L.slen
  have hfew := I.few
  unfold addrP
  cases h : adr s x y with
  | none =>
    simp only []
    rcases adr_none h with h1 | h1 | ⟨i, f, rfl, hf, h1⟩
    · have d1 : decide (x < 0) = true := by simpa using h1
      clear h hv L I c3 hfew h1
      go_enter Try.func14, Try.ntmps14
      go_wp2
      go_ret2
      exact ⟨rfl, Below.refl _ _⟩
    · rw [hv] at c3
      have d1 : decide (x < 0) = false := by simp; omega
      have d2 : decide ((s.fr.length : Int) ≤ x) = true := by simpa using h1
      clear h hv L I
      generalize s.fr.length = n at *
      go_enter Try.func14, Try.ntmps14
      go_wp2
      go_ret2
      exact ⟨rfl, Below.refl _ _⟩
    · have hi := get_lt hf
      have hs := size_any w L I hf
      rw [hv] at c3
      have b1 : (i : Int) < (s.fr.length : Int) := by omega
      have d1 : decide ((i : Int) < 0) = false := by simp
      have d2 : decide ((s.fr.length : Int) ≤ (i : Int)) = false := by simp; omega
      have d3 : decide (s.fr.length ≤ i) = false := by simp; omega
      clear h hv L I hf
      generalize s.fr.length = n at *
      generalize f.length = k at *
      rcases h1 with h1 | h1
      · have d4 : decide (y < 0) = true := by simpa using h1
        go_enter Try.func14, Try.ntmps14
        go_wp2
        go_ret2
        exact ⟨rfl, Below.refl _ _⟩
      · have d4 : decide (y < 0) = false := by simp; omega
        have d5 : decide ((k : Int) ≤ y) = true := by simpa using h1
        go_enter Try.func14, Try.ntmps14
        go_wp2_with (refine hs.mono ?_; rintro e w1 ⟨rfl, rfl⟩)
        go_ret2
        exact ⟨rfl, Below.refl _ _⟩
  | some p =>
    obtain ⟨i, k⟩ := p
    simp only []
    obtain ⟨rfl, rfl, f, hf, hk⟩ := adr_some h
    have hi := get_lt hf
    have hs := size_any w L I hf
    obtain ⟨g, cp, hv', cs⟩ := L.start hi
    rw [hv'] at c3
    have c0 := L.c0
    have hpl := pre_get hf
    have hfit := I.fit
    have hm1 := I.m1
    have hb1 := I.b1
    have hb2 := I.b2
    have b1 : (i : Int) < (s.fr.length : Int) := by omega
    have b2 : (pre s.fr i : Int) ≤ 65536 := by have : s.fr.flatten.length = s.ws.length := rfl; omega
    have b3 : (k : Int) < (f.length : Int) := by omega
    have b4 : (f.length : Int) ≤ 65536 := by have : s.fr.flatten.length = s.ws.length := rfl; omega
    have d1 : decide ((i : Int) < 0) = false := by simp
    have d2 : decide ((s.fr.length : Int) ≤ (i : Int)) = false := by simp; omega
    have d3 : decide (s.fr.length ≤ i) = false := by simp; omega
    have d4 : decide ((k : Int) < 0) = false := by simp
    have d5 : decide ((f.length : Int) ≤ (k : Int)) = false := by simp; omega
    have d6 : decide (f.length ≤ k) = false := by simp; omega
    clear h hv hv' L I hf hpl hfit hm1
    generalize s.fr.length = n at *
    generalize f.length = m at *
    generalize pre s.fr i = q at *
    generalize s.base = b at *
    go_enter Try.func14, Try.ntmps14
    go_wp2_with (refine hs.mono ?_; rintro e w1 ⟨rfl, rfl⟩)
    go_quiet (fail)
    go_wp2
    go_ret2
    exact ⟨rfl, below_drewN (Below.refl _ _) nq⟩
theorem made_ints (n : Nat) : madeCells #[Value.int .i64 0] n = (ints (List.replicate n 0)).toArray := by
  apply Array.ext
  · simp [madeCells, ints]
  · intro i h1 h2
    simp [madeCells, ints, Nat.mod_one]
def lensP (s : Sk) : List Nat := s.fr.map List.length
theorem lensP_get {s : Sk} {j : Nat} {f : List Wo} (h : s.fr[j]? = some f) : (lensP s)[j]? = some f.length := by simp [lensP, h]
set_option maxHeartbeats 2000000 in
theorem frames_any (w : World) (L : Sl X w s) (I : SInv s) :
    Calls Try.prog 23 #[X.p] w fun e w' => e = .returned (.slice (some ⟨w.heap.size, 0, none⟩) s.fr.length s.fr.length) ∧ w'.heap[w.heap.size]? = some (.cells (addrs (lensP s)).toArray 3 (0, 0)) ∧ Below w.heap.size w w' := by
  have c3 := L.c3
  obtain ⟨ao, cap, hv⟩ := L.slen
  rw [hv] at c3
  have hfew := I.few
  have b1 : (s.fr.length : Int) ≤ 1000 := by omega
  obtain ⟨i0, hi, hz0, hz1, hz2⟩ := info_parts Try.info3
  have hmk := run_make (P := Try.prog) w 50 3 i0 (.int .i64 0) Try.underlying50 hi hz0 .i64 .i64 s.fr.length s.fr.length (by omega) (Int.le_refl _) (by rw [hz2]; omega) (by omega)
  rw [hz1] at hmk
  simp only [Int.toNat_natCast, Nat.mul_one] at hmk
  rw [show (Value.int .i64 0).cells = #[Value.int .i64 0] from rfl, made_ints] at hmk
  obtain ⟨zs, hzs⟩ : ∃ zs, List.replicate s.fr.length (0 : Int) = zs := ⟨_, rfl⟩
  have HZ := hide (show zs.length = s.fr.length by rw [← hzs]; simp)
  rw [hzs] at hmk
  have LH := hide L
  have IH := hide I
  have HN := hide (show (lensP s).length = s.fr.length by simp [lensP])
  obtain ⟨n, hn⟩ : ∃ n, s.fr.length = n := ⟨_, rfl⟩
  have HNN := hide hn
  rw [hn] at c3 b1 hmk ⊢
  clear hz0 hz1 hz2 hi hzs hv L I hfew hn
  go_enter Try.func23, Try.ntmps23
  go_wp2
  go_loopw [15] (fun i wr => ∃ (j : Nat) (xs : List Int), j ≤ n ∧ i = .int .i64 j ∧ xs.length = n ∧ (∀ t, t < j → xs[t]? = ((lensP s)[t]?).map fun (x : Nat) => (x : Int)) ∧ wr.heap[w.heap.size]? = some (.cells (ints xs).toArray 3 (0, 0)) ∧ Below w.heap.size w wr) (fun i _ => n - (intOf i).toNat)
  case atStart => exact ⟨0, zs, Nat.zero_le _, rfl, HZ.out.trans HNN.out, fun t ht => absurd ht (Nat.not_lt_zero t), heap_new _ _ rfl, (Below.refl _ _).alloc (Nat.le_refl _) _⟩
  case round =>
    obtain ⟨j, xs, hj, rfl, hxs, hget, hblk, hb⟩ := hrel
    by_cases hlt : j < n
    · obtain ⟨f, hf⟩ : ∃ f, s.fr[j]? = some f := ⟨s.fr[j]'(by rw [HNN.out]; exact hlt), by simp⟩
      have hs := size_any wr (LH.out.below hb) IH.out hf
      have HL := hide (lensP_get hf)
      have bj : (j : Int) < (n : Int) := by omega
      have cj : wr.cell? ⟨w.heap.size, j, none⟩ = some (.int .i64 (xs[j]'(by omega))) := by simp [World.cell?, hblk, ints, hxs, hlt]
      have fj : wr.frozen? ⟨w.heap.size, j, none⟩ = false := by simp [World.frozen?, hblk]
      have HB := hide hblk
      have HG := hide hget
      clear hblk hget hf
      generalize f.length = k at *
      generalize xs[j]'(by omega) = x0 at *
      go_wp2_with (refine hs.mono ?_; rintro e w1 ⟨rfl, rfl⟩)
      go_roundw
      case rel =>
        refine ⟨j + 1, xs.set j (k : Int), by omega, by go_num, by simpa using hxs, fun t ht => ?_, ?_, ?_⟩
        · rw [List.getElem?_set]
          by_cases h1 : j = t
          · subst h1; rw [if_pos rfl, HL.out]; simp [hxs, hlt]
          · rw [if_neg h1]; exact HG.out t (by omega)
        · rw [heap_setCell_same _ _ _ _ HB.out]; simp [ints, List.map_set]
        · exact hb.setCell (Nat.le_refl _) _
      case measure => simp [intOf]; omega
    · obtain rfl : j = n := by omega
      go_wp2
      go_ret
      refine ⟨rfl, ?_, hb⟩
      rw [hblk]
      have : ints xs = addrs (lensP s) := by
        unfold ints addrs
        apply List.ext_getElem?
        intro t
        rw [List.getElem?_map, List.getElem?_map]
        by_cases h1 : t < j
        · rw [hget t h1, Option.map_map]; rfl
        · rw [List.getElem?_eq_none (by omega), List.getElem?_eq_none (by rw [HN.out, HNN.out]; omega)]; rfl
      rw [this]
end
end Go.Proofs.Ytjapfckadikjiaa
