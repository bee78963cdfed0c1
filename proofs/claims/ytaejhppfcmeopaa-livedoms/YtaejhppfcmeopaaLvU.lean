/- fault, and Solve. -/
import Derived.Test.YtaejhppfcmeopaaLvT
import Derived.Test.YtaejhppfcmeopaaLvR
namespace Go.Proofs.Ytaejhppfcmeopaa
open Go.RowKit
section
variable {w : World}
set_option maxHeartbeats 1000000 in
theorem contB_any {v : Value} {l : List Blk} {p5 p6 vb bb n cp : Nat} {ab : Option Addr} {k : Int} (W : Wr w p5 p6 vb bb n cp ab k) (R : BlksAt w v l) (hl : l.length ≤ 512) : Calls Try.prog 33 #[v, .func (.func 31) #[] #[.pointer (some ⟨p5, 0, none⟩), .pointer (some ⟨p6, 0, none⟩)]] w fun e w' => e = .returned (.bool (l.any (badB k n))) ∧ Below w.heap.size w w' := by
  obtain ⟨ao, cap, rfl, h2⟩ := R
  have hi : Calls Try.prog 48 #[.slice ao l.length cap, .func (.func 31) #[] #[.pointer (some ⟨p5, 0, none⟩), .pointer (some ⟨p6, 0, none⟩)]] w fun e w' => (∃ i : Int, e = .returned (.int .i64 i) ∧ Hid (decide (0 ≤ i) = l.any (badB k n))) ∧ Below w.heap.size w w' := by
    have H2 := hide h2
    have HW := hide W
    clear W
    generalize hn : l.length = m at *
    have HN := hide hn
    have hm2 : (m : Int) ≤ 512 := by omega
    clear hn h2
    go_enter Try.func48, Try.ntmps48
    go_wp2
    go_loopw [5, 8] (fun _ i wr => ∃ j : Nat, j ≤ m ∧ i = .int .i64 j ∧ Hid (Below w.heap.size w wr ∧ (l.take j).any (badB k n) = false)) (fun _ i _ => m - (intOf i).toNat)
    case atStart => exact ⟨0, Nat.zero_le _, rfl, Below.refl _ _, rfl⟩
    case round =>
      obtain ⟨j, hj, rfl, HJ⟩ := hrel
      by_cases hlt : j < m
      · obtain ⟨b, hb⟩ : ∃ b, l[j]? = some b := ⟨l[j]'(by rw [HN.out]; exact hlt), by simp⟩
        obtain ⟨g, o, vu, vd, vn, rfl, hg, c0, c1, c2, IU, ID, IN⟩ := H2.out j b hb
        rw [← HJ.out.1.cell (p := ⟨g, o + j * 3, none⟩) hg] at c0
        rw [← HJ.out.1.cell (p := ⟨g, o + j * 3 + 1, none⟩) hg] at c1
        rw [← HJ.out.1.cell (p := ⟨g, o + j * 3 + 2, none⟩) hg] at c2
        have hg2 := Nat.lt_of_lt_of_le hg HJ.out.1.size
        have hts := any_take_succ (q := badB k n) hb
        rw [HJ.out.2, Bool.false_or] at hts
        have HB := hide HJ.out.1
        have HTS := hide hts
        have hc := wrong_any (w := wr) (HW.out.below HB.out) (IU.below HB.out) (ID.below HB.out) (IN.below HB.out)
        have bj : (j : Int) < (m : Int) := by omega
        clear hb hts HJ IU ID IN
        cases hq : badB k n b with
        | true =>
          rw [hq] at hc HTS
          go_wp2_with (go_at_call 31; refine hc.mono ?_; rintro e w2 ⟨rfl, hb2⟩)
          go_ret
          refine ⟨⟨_, rfl, ?_⟩, HB.out.trans (hb2.mono HB.out.size)⟩
          have h1 := any_of_take HTS.out
          exact hide (by rw [h1]; simp)
        | false =>
          rw [hq] at hc HTS
          go_wp2_with (go_at_call 31; refine hc.mono ?_; rintro e w2 ⟨rfl, hb2⟩)
          go_roundw
          case rel => exact ⟨j + 1, by omega, by go_num, HB.out.trans (hb2.mono HB.out.size), HTS.out⟩
          case measure => simp [intOf]; omega
      · obtain rfl : j = m := by omega
        go_wp2
        go_ret
        refine ⟨⟨_, rfl, ?_⟩, HJ.out.1⟩
        have h1 := HJ.out.2
        rw [List.take_of_length_le (by rw [HN.out]; exact Nat.le_refl _)] at h1
        exact hide (by rw [h1]; rfl)
  go_enter Try.func33, Try.ntmps33
  go_wp2_with fail
  refine hi.mono ?_
  rintro e w2 ⟨⟨i, rfl, HI⟩, hb⟩
  go_wp2
  go_ret
  exact ⟨ret_bool (by rw [← HI.out]), hb⟩
set_option maxHeartbeats 2000000 in
theorem fault_any {v : Value} {bs : List Blk} (k : Int) (R : BlksAt w v bs) : Calls Try.prog 21 #[v, .int .i64 k] w fun e w' => e = .returned (.int .i64 (fltP bs k)) ∧ Below w.heap.size w w' := by
  have HR := hide R
  obtain ⟨ao, cap, rfl, _⟩ := R
  obtain ⟨n, hn⟩ : ∃ n, bs.length = n := ⟨_, rfl⟩
  have HN := hide hn
  rw [hn]
  clear hn
  by_cases h1 : 512 < n
  · have h1' : (512 : Int) < (n : Int) := by omega
    have hf : Hid (fltP bs k = 4) := hide (by unfold fltP; rw [if_pos (.inl (by rw [HN.out]; exact h1))])
    go_enter Try.func21, Try.ntmps21
    go_wp2
    go_ret
    exact ⟨by rw [hf.out]; rfl, ((Below.refl _ _).alloc (Nat.le_refl _) _).alloc (by simp) _⟩
  · have h1' : decide ((512 : Int) < (n : Int)) = false := by simp; omega
    by_cases h2 : k < 0
    · have hf : Hid (fltP bs k = 4) := hide (by unfold fltP; rw [if_pos (.inr (.inl h2))])
      go_enter Try.func21, Try.ntmps21
      go_wp2
      go_ret
      exact ⟨by rw [hf.out]; rfl, ((Below.refl _ _).alloc (Nat.le_refl _) _).alloc (by simp) _⟩
    · have h2' : decide (k < 0) = false := by simpa using h2
      by_cases h3 : 4096 < k
      · have hf : Hid (fltP bs k = 4) := hide (by unfold fltP; rw [if_pos (.inr (.inr h3))])
        go_enter Try.func21, Try.ntmps21
        go_wp2
        go_ret
        exact ⟨by rw [hf.out]; rfl, ((Below.refl _ _).alloc (Nat.le_refl _) _).alloc (by simp) _⟩
      · have h3' : decide (4096 < k) = false := by simpa using h3
        have hf : Hid (fltP bs k = if bs.any (badB k n) then 2 else 0) := hide (by
          unfold fltP
          rw [if_neg (by rw [HN.out]; omega), HN.out])
        have hb0 : Below w.heap.size w ((((w.alloc (.cells #[.slice ao n cap] 22)).alloc (.cells #[.int .i64 k] 3)).alloc (.cells #[.func (.func 29) #[] #[.pointer (some ⟨w.heap.size + 1, 0, none⟩)]] 53)).alloc (.cells #[.func (.func 30) #[] #[.pointer (some ⟨w.heap.size, 0, none⟩)]] 53)) := ((((Below.refl _ _).alloc (Nat.le_refl _) _).alloc (by simp) _).alloc (by simp; omega) _).alloc (by simp; omega) _
        have hwr : Wr ((((w.alloc (.cells #[.slice ao n cap] 22)).alloc (.cells #[.int .i64 k] 3)).alloc (.cells #[.func (.func 29) #[] #[.pointer (some ⟨w.heap.size + 1, 0, none⟩)]] 53)).alloc (.cells #[.func (.func 30) #[] #[.pointer (some ⟨w.heap.size, 0, none⟩)]] 53)) (w.heap.size + 1 + 1) (w.heap.size + 1 + 1 + 1) (w.heap.size + 1) w.heap.size n cap ao k := by
          refine ⟨?_, heap_new _ _ (by simp), ?_, ?_⟩
          · rw [heap_under _ _ (by simp)]; exact heap_new _ _ (by simp)
          · rw [heap_under _ _ (by simp), heap_under _ _ (by simp)]; exact heap_new _ _ (by simp)
          · rw [heap_under _ _ (by simp; omega), heap_under _ _ (by simp; omega), heap_under _ _ (by simp)]; exact heap_new _ _ rfl
        have hc := contB_any hwr (HR.out.below hb0) (by rw [HN.out]; omega)
        rw [HN.out] at hc
        have cb := cell_of (o := 0) hwr.d rfl
        have HB0 := hide hb0
        clear hb0 hwr
        go_enter Try.func21, Try.ntmps21
        go_upto_region 6 with (fail)
        generalize ((((w.alloc (.cells #[.slice ao n cap] 22)).alloc (.cells #[.int .i64 k] 3)).alloc (.cells #[.func (.func 29) #[] #[.pointer (some ⟨w.heap.size + 1, 0, none⟩)]] 53)).alloc (.cells #[.func (.func 30) #[] #[.pointer (some ⟨w.heap.size, 0, none⟩)]] 53)) = W at *
        cases hq : bs.any (badB k n) with
        | true =>
          rw [hq] at hc hf
          go_wp2_with (go_at_call 33; refine hc.mono ?_; rintro e w2 ⟨rfl, hb2⟩)
          go_ret
          exact ⟨by rw [hf.out]; rfl, HB0.out.trans (hb2.mono HB0.out.size)⟩
        | false =>
          rw [hq] at hc hf
          go_wp2_with (go_at_call 33; refine hc.mono ?_; rintro e w2 ⟨rfl, hb2⟩)
          go_ret
          exact ⟨by rw [hf.out]; rfl, HB0.out.trans (hb2.mono HB0.out.size)⟩
theorem flt_some (bs : List Blk) (k : Int) : fltP bs k = 0 ∨ fltP bs k = 2 ∨ fltP bs k = 4 := by
  unfold fltP
  split
  · exact .inr (.inr rfl)
  · split
    · exact .inr (.inl rfl)
    · exact .inl rfl
theorem snd_flt {bs : List Blk} {k : Int} {K : Nat} (S : Snd bs K) (h : k = K) : fltP bs k = 0 := by
  subst h
  have h1 := S.l
  have h2 := S.v
  unfold fltP
  rw [if_neg (by omega), if_neg]
  rw [Bool.not_eq_true, List.any_eq_false]
  intro b hb
  obtain ⟨i, hi⟩ := List.getElem?_of_mem hb
  have ho : ∀ (n : Nat) (x : Int), (∃ y : Nat, x = y ∧ y < n) → ¬ outI n x = true := fun n x ⟨y, h1, h2⟩ => by subst h1; simp [outI]; omega
  rw [Bool.not_eq_true, badB, Bool.or_eq_false_iff, Bool.or_eq_false_iff, List.any_eq_false, List.any_eq_false, List.any_eq_false]
  exact ⟨⟨fun x hx => ho _ x (S.u i b hi x hx), fun x hx => ho _ x (S.d i b hi x hx)⟩, fun x hx => ho _ x (S.n i b hi x hx)⟩
/-- What Solve answers. -/
def SolO (bs : List Blk) (k : Int) (w' : World) (v1 v2 : Value) : Prop := (fltP bs k ≠ 0 → v1 = .slice none 0 0 ∧ v2 = .slice none 0 0) ∧ ∀ K : Nat, k = K → Snd bs K → LsAt w' v1 (resIn bs K) ∧ LsAt w' v2 (resOut bs K)
set_option maxHeartbeats 2000000 in
theorem solve_any {v : Value} {bs : List Blk} (k : Int) (R : BlksAt w v bs) : Calls Try.prog 9 #[v, .int .i64 k] w fun e w' => (∃ v1 v2, e = .returned (.tuple #[v1, v2, .int .i64 (fltP bs k)]) ∧ SolO bs k w' v1 v2) ∧ Below w.heap.size w w' := by
  have HR := hide R
  have hf := fault_any (w := w) k R
  obtain ⟨ao, cap, rfl, _⟩ := R
  generalize hn : bs.length = n at *
  by_cases h0 : fltP bs k = 0
  · obtain ⟨K, rfl, S⟩ := snd_of h0
    have hs := fun (w2 : World) (hb : Below w.heap.size w w2) => needs_any S (HR.out.below hb)
    have HS := hide hs
    rw [h0] at hf ⊢
    have H0 := hide h0
    clear h0 hs
    go_enter Try.func9, Try.ntmps9
    go_wp2_with (first
      | (go_at_call 21; refine hf.mono ?_; rintro e w2 ⟨rfl, hb2⟩; have hne := HS.out w2 hb2)
      | (go_at_call 22; refine hne.mono ?_; rintro e w3 ⟨⟨v1, v2, rfl, l1, l2⟩, hb3⟩; have HL := hide (And.intro l1 l2); clear hne l1 l2; have hs1 : True := trivial))
    refine bodyPost_ret (by simp [results, Try.results9, go_sem]; try rfl) rfl ?_
    refine ⟨⟨v1, v2, rfl, fun h => absurd H0.out h, fun K' hK _ => ?_⟩, hb2.trans (hb3.mono hb2.size)⟩
    obtain rfl : K = K' := by omega
    exact HL.out
  · have hne0 : (fltP bs k == 0) = false := by simpa using h0
    have H0 := hide h0
    clear h0
    go_enter Try.func9, Try.ntmps9
    go_wp2_with (go_at_call 21; refine hf.mono ?_; rintro e w2 ⟨rfl, hb2⟩)
    refine bodyPost_ret (by simp [results, Try.results9, go_sem]; try rfl) rfl ?_
    refine ⟨⟨.slice none 0 0, .slice none 0 0, rfl, fun _ => ⟨rfl, rfl⟩, fun K' hK S => ?_⟩, hb2⟩
    exact absurd (snd_flt S hK) H0.out
end
end Go.Proofs.Ytaejhppfcmeopaa
