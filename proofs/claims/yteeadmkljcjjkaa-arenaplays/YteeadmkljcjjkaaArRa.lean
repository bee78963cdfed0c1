/- The document's New, at, Size, Find and Get. -/
import Derived.Test.YteeadmkljcjjkaaArRw
namespace Go.Proofs.Yteeadmkljcjjkaa
open Go.RowKit Go.Maps

theorem rnew_any (n : Nat) (w : World) (h : n ≤ 65536) (B : Nat) (hB : B ≤ w.heap.size) :
    Calls Try.prog 10 #[.int .i64 n] w fun e w' => ∃ vp vs, e = .returned (rv (newR n) vp vs) ∧ RL B w' (newR n) vp vs ∧ Below w.heap.size w w' ∧ (∀ g, vp.ownBlock = some g → w.heap.size ≤ g) ∧ (∀ g, vs.ownBlock = some g → w.heap.size ≤ g) := by
  have b1 : (n : Int) ≤ 65536 := by omega
  obtain ⟨W1, hW1⟩ : ∃ W1, w.alloc (.cells #[.int .i64 0, .int .i64 0, .slice none 0 0, .int .i64 0, .slice none 0 0] 31) = W1 := ⟨_, rfl⟩
  have z1 : W1.heap.size = w.heap.size + 1 := by rw [← hW1]; simp
  obtain ⟨i0, hi, hz0, hz1, hz2⟩ := info_parts Try.info3
  have hmk := run_make (P := Try.prog) W1 29 3 i0 (.int .i64 0) Try.underlying29 hi hz0 .i64 .i64 ((n : Int) + 1) ((n : Int) + 1) (by omega) (Int.le_refl _) (by rw [hz2]; omega) (by omega)
  rw [hz1, show ((n : Int) + 1).toNat = n + 1 from by omega, z1] at hmk
  simp only [Nat.mul_one] at hmk
  rw [show (Value.int .i64 0).cells = #[Value.int .i64 0] from rfl, made_ints] at hmk
  clear hz0 hz1 hz2 hi
  subst hW1
  go_enter Try.func10, Try.ntmps10
  go_wp2
  refine bodyPost_ret (v := rv (newR n) (.slice none 0 0) (.slice (some ⟨w.heap.size + 1, 0, none⟩) (n + 1) (n + 1))) (by simp [results, Try.results10, go_sem, newR]) rfl ⟨_, _, rfl, ⟨⟨rfl, .inl ⟨rfl, rfl⟩⟩, ?_, h, by simp [newR], by simp [newR], by simp [newR]; omega, by simp [newR], by simp [newR], by simp; omega⟩, ((Below.refl _ _).alloc (Nat.le_refl _) _).alloc (by simp) _, ?_, ?_⟩
  · rw [show (newR n).st.length = n + 1 by simp [newR]]
    exact ⟨by simp [ints, newR], .inr ⟨w.heap.size + 1, n + 1, _, rfl, by omega, heap_new _ _ (by simp), Nat.le_refl _, by unfold maxLen; omega, by simp [ints], by simp [ints, newR]⟩⟩
  · intro g hg; simp [Value.ownBlock] at hg
  · intro g hg; simp [Value.ownBlock] at hg; omega
/-- The first piece that begins at an address and is given. -/
theorem rat_any {B : Nat} {r : Rs} {vp vs : Value} (x : Int) (w : World) (R : RL B w r vp vs) :
    Calls Try.prog 34 #[rv r vp vs, .int .i64 x] w fun e w' => (∃ o : Option Nat, AtR r.ps x o ∧ e = .returned (.int .i64 (match o with | some j => (j : Int) | none => -1))) ∧ Below w.heap.size w w' := by
  obtain ⟨ao, cp, hv⟩ := R.pform
  have hlen := R.bp
  have RH := hide R
  have HV := hide hv
  subst hv
  obtain ⟨W1, hW1⟩ : ∃ W1, w.alloc (.cells #[.int .i64 r.wd, .int .i64 r.ln, .slice ao r.ps.length cp, .int .i64 r.fd, vs] 31) = W1 := ⟨_, rfl⟩
  have cc : W1.cell? ⟨w.heap.size, 2, none⟩ = some (.slice ao r.ps.length cp) := by rw [← hW1]; simp
  have R1 := hide (show RL B W1 r (.slice ao r.ps.length cp) vs by rw [← hW1]; exact R.alloc _)
  have HB := hide (show Below w.heap.size w W1 by rw [← hW1]; exact (Below.refl _ _).alloc (Nat.le_refl _) _)
  have HM := hide (show r.ps.length = r.ps.length from rfl)
  clear R HM
  generalize hn : r.ps.length = n at *
  have HN := hide hn
  clear hn
  subst hW1
  go_enter Try.func34, Try.ntmps34
  go_wp2
  go_loop [5] (fun i => ∃ j : Nat, j ≤ n ∧ i = .int .i64 j ∧ Hid (∀ (q : Nat) (p : Rp), q < j → r.ps[q]? = some p → ¬ ((p.a : Int) = x ∧ p.f = false))) (fun i => n - (intOf i).toNat)
  case atStart => exact ⟨0, Nat.zero_le _, rfl, fun q p h => absurd h (Nat.not_lt_zero _)⟩
  case round =>
    obtain ⟨j, hj, rfl, hno⟩ := hrel
    by_cases hlt : j < n
    · obtain ⟨p, hp⟩ : ∃ p, r.ps[j]? = some p := ⟨r.ps[j]'(by rw [HN.out]; exact hlt), by simp⟩
      obtain ⟨g, cap, hv, hg, d1, d2, d3, d4, _⟩ := R1.out.piece hp
      obtain rfl : ao = some ⟨g, 0, none⟩ := (Value.slice.inj hv).1
      have bj : (j : Int) < (n : Int) := by omega
      have HP := hide hp
      clear hv hp
      by_cases hx : (p.a : Int) = x
      · have e1 : ((p.a : Int) == x) = true := by simpa using hx
        have HX := hide hx
        clear hx
        cases hf : p.f with
        | false =>
          rw [hf] at d3
          have HF := hide hf
          clear hf
          go_wp2
          go_ret
          exact ⟨⟨some j, ⟨p, HP.out, HX.out, HF.out⟩, rfl⟩, HB.out⟩
        | true =>
          rw [hf] at d3
          have HF := hide hf
          clear hf
          go_wp2
          go_round
          case rel =>
            refine ⟨j + 1, by omega, by go_num, fun q p' hq hp' => ?_⟩
            rcases Nat.lt_or_ge q j with h | h
            · exact hno.out q p' h hp'
            · obtain rfl : q = j := by omega
              rw [HP.out] at hp'; cases hp'
              rw [HF.out]; simp
          case measure => simp [intOf]; omega
      · have e1 : ((p.a : Int) == x) = false := by simpa using hx
        have HX := hide hx
        clear hx
        go_wp2
        go_round
        case rel =>
          refine ⟨j + 1, by omega, by go_num, fun q p' hq hp' => ?_⟩
          rcases Nat.lt_or_ge q j with h | h
          · exact hno.out q p' h hp'
          · obtain rfl : q = j := by omega
            rw [HP.out] at hp'; cases hp'
            exact fun h => HX.out h.1
        case measure => simp [intOf]; omega
    · obtain rfl : j = n := by omega
      go_wp2
      go_ret
      exact ⟨⟨none, fun q p hp => hno.out q p (by rw [← HN.out]; exact get_lt hp) hp, rfl⟩, HB.out⟩
section
variable {B : Nat} {r : Rs} {vp vs : Value} {w : World}
theorem rsize_any (x : Int) (R : RL B w r vp vs) :
    Calls Try.prog 16 #[rv r vp vs, .int .i64 x] w fun e w' => ((AtR r.ps x none ∧ e = two (0, 6)) ∨ ∃ j p, AtR r.ps x (some j) ∧ r.ps[j]? = some p ∧ e = two ((p.n : Int), 0)) ∧ Below w.heap.size w w' := by
  obtain ⟨ao, cp, rfl⟩ := R.pform
  have hlen := R.bp
  obtain ⟨W1, hW1⟩ : ∃ W1, w.alloc (.cells #[.int .i64 r.wd, .int .i64 r.ln, .slice ao r.ps.length cp, .int .i64 r.fd, vs] 31) = W1 := ⟨_, rfl⟩
  have R1 := hide (show RL B W1 r (.slice ao r.ps.length cp) vs by rw [← hW1]; exact R.alloc _)
  have HB := hide (show Below w.heap.size w W1 by rw [← hW1]; exact (Below.refl _ _).alloc (Nat.le_refl _) _)
  have cc : W1.cell? ⟨w.heap.size, 2, none⟩ = some (.slice ao r.ps.length cp) := by rw [← hW1]; simp
  have zz : W1.heap.size = w.heap.size + 1 := by rw [← hW1]; simp
  have ha := rat_any x W1 R1.out
  clear R
  subst hW1
  go_enter Try.func16, Try.ntmps16
  go_wp2_with fail
  refine ha.mono ?_
  rintro e w1 ⟨⟨o, ho, rfl⟩, hb⟩
  have cc1 : w1.cell? ⟨w.heap.size, 2, none⟩ = some (.slice ao r.ps.length cp) := by rw [hb.cell (p := ⟨w.heap.size, 2, none⟩) (by show w.heap.size < _; rw [zz]; omega)]; exact cc
  have R2 := hide (R1.out.below hb)
  have HB2 := hide (HB.out.trans (hb.mono (by omega)))
  clear hb ha R1 HB cc zz
  cases o with
  | none =>
    have HO := hide ho
    clear ho
    go_wp2
    go_ret2
    exact ⟨.inl ⟨HO.out, rfl⟩, HB2.out⟩
  | some j =>
    have HO := hide ho
    obtain ⟨p, hp, _, _⟩ := ho
    obtain ⟨g, cap, hv, hg, d1, d2, d3, d4, _⟩ := R2.out.piece hp
    obtain rfl : ao = some ⟨g, 0, none⟩ := (Value.slice.inj hv).1
    have hj := get_lt hp
    have bj : (j : Int) < (r.ps.length : Int) := by omega
    have e1 : decide ((j : Int) < 0) = false := by simp
    have HP := hide hp
    clear hv hp
    generalize r.ps.length = n at *
    go_wp2
    go_ret2
    exact ⟨.inr ⟨j, p, HO.out, HP.out, rfl⟩, HB2.out⟩
set_option maxHeartbeats 1000000 in
theorem rfind_any (x : Int) (R : RL B w r vp vs) :
    Calls Try.prog 22 #[rv r vp vs, .int .i64 x] w fun e w' => ((FindR r.ps x none ∧ e = two (0, 6)) ∨ ∃ j p, FindR r.ps x (some j) ∧ r.ps[j]? = some p ∧ e = two ((p.a : Int), 0)) ∧ Below w.heap.size w w' := by
  obtain ⟨ao, cp, rfl⟩ := R.pform
  have hlen := R.bp
  obtain ⟨W1, hW1⟩ : ∃ W1, w.alloc (.cells #[.int .i64 r.wd, .int .i64 r.ln, .slice ao r.ps.length cp, .int .i64 r.fd, vs] 31) = W1 := ⟨_, rfl⟩
  have R1 := hide (show RL B W1 r (.slice ao r.ps.length cp) vs by rw [← hW1]; exact R.alloc _)
  have HB := hide (show Below w.heap.size w W1 by rw [← hW1]; exact (Below.refl _ _).alloc (Nat.le_refl _) _)
  have HC := hide (show W1.cell? ⟨w.heap.size, 2, none⟩ = some (.slice ao r.ps.length cp) by rw [← hW1]; simp)
  have HZ := hide (show w.heap.size < W1.heap.size by rw [← hW1]; simp)
  clear R
  generalize hn : r.ps.length = n at *
  have HN := hide hn
  clear hn
  subst hW1
  go_enter Try.func22, Try.ntmps22
  go_wp2
  go_loopw [6] (fun i wr => ∃ j : Nat, j ≤ n ∧ i = .int .i64 j ∧ Hid (∀ (q : Nat) (p : Rp), q < j → r.ps[q]? = some p → ¬ (p.f = false ∧ (p.a : Int) ≤ x ∧ x ≤ (p.a : Int) + p.n - 1)) ∧ Hid (RL B wr r (.slice ao n cp) vs) ∧ Hid (Below w.heap.size w wr) ∧ wr.cell? ⟨w.heap.size, 2, none⟩ = some (.slice ao n cp) ∧ w.heap.size < wr.heap.size) (fun i _ => n - (intOf i).toNat)
  case atStart => exact ⟨0, Nat.zero_le _, rfl, fun q p h => absurd h (Nat.not_lt_zero _), R1, HB, HC.out, HZ.out⟩
  case round =>
    obtain ⟨j, hj, rfl, hno, RR, BB, cc, zz⟩ := hrel
    clear R1 HB HC HZ
    by_cases hlt : j < n
    · obtain ⟨p, hp⟩ : ∃ p, r.ps[j]? = some p := ⟨r.ps[j]'(by rw [HN.out]; exact hlt), by simp⟩
      obtain ⟨g, cap, hv, hg, d1, d2, d3, d4, _⟩ := RR.out.piece hp
      obtain ⟨ba1, ba2, _⟩ := RR.out.ba j p hp
      obtain rfl : ao = some ⟨g, 0, none⟩ := (Value.slice.inj hv).1
      have bj : (j : Int) < (n : Int) := by omega
      have bp1 : (p.a : Int) ≤ 65537 := by omega
      have bp2 : (p.n : Int) ≤ 65536 := by omega
      have bp3 : 0 ≤ (p.a : Int) := by omega
      have bp4 : 0 ≤ (p.n : Int) := by omega
      have HP := hide hp
      clear hv hp
      have stepno : ¬ (p.f = false ∧ (p.a : Int) ≤ x ∧ x ≤ (p.a : Int) + p.n - 1) → (∀ (q : Nat) (p' : Rp), q < j + 1 → r.ps[q]? = some p' → ¬ (p'.f = false ∧ (p'.a : Int) ≤ x ∧ x ≤ (p'.a : Int) + p'.n - 1)) := by
        intro hc q p' hq hp'
        rcases Nat.lt_or_ge q j with h | h
        · exact hno.out q p' h hp'
        · obtain rfl : q = j := by omega
          rw [HP.out] at hp'; cases hp'; exact hc
      have SN := hide stepno
      clear stepno
      have fin : Hid (∀ o : Obj, Hid (RL B (wr.alloc o) r (.slice (some ⟨g, 0, none⟩) n cp) vs) ∧ Hid (Below w.heap.size w (wr.alloc o))) := fun o => ⟨RR.out.alloc o, BB.out.alloc (by omega) o⟩
      cases hf : p.f with
      | true =>
        rw [hf] at d3
        have HF := hide hf
        clear hf
        go_wp2
        go_roundw
        case rel => exact ⟨j + 1, by omega, by go_num, SN.out (fun h => by rw [HF.out] at h; cases h.1), (fin.out _).1, (fin.out _).2, by rw [Lib.cell?_alloc_some _ cc], by simp; omega⟩
        case measure => simp [intOf]; omega
      | false =>
        rw [hf] at d3
        have HF := hide hf
        clear hf
        by_cases h1 : (p.a : Int) ≤ x
        · have e1 : decide ((p.a : Int) ≤ x) = true := by simpa using h1
          by_cases h2 : x ≤ (p.a : Int) + p.n - 1
          · have e2 : decide (x ≤ (p.a : Int) + p.n - 1) = true := by simpa using h2
            have HI := hide (And.intro h1 h2)
            clear h1 h2
            go_wp2
            go_ret2
            exact ⟨.inr ⟨j, p, ⟨p, HP.out, HF.out, HI.out.1, HI.out.2⟩, HP.out, rfl⟩, (fin.out _).2⟩
          · have e2 : decide (x ≤ (p.a : Int) + p.n - 1) = false := by simpa using h2
            have HI := hide h2
            clear h2
            go_wp2
            go_roundw
            case rel => exact ⟨j + 1, by omega, by go_num, SN.out (fun h => HI.out h.2.2), (fin.out _).1, (fin.out _).2, by rw [Lib.cell?_alloc_some _ cc], by simp; omega⟩
            case measure => simp [intOf]; omega
        · have e1 : decide ((p.a : Int) ≤ x) = false := by simpa using h1
          have HI := hide h1
          clear h1
          go_wp2
          go_roundw
          case rel => exact ⟨j + 1, by omega, by go_num, SN.out (fun h => HI.out h.2.1), (fin.out _).1, (fin.out _).2, by rw [Lib.cell?_alloc_some _ cc], by simp; omega⟩
          case measure => simp [intOf]; omega
    · obtain rfl : j = n := by omega
      go_wp2
      go_ret2
      exact ⟨.inl ⟨fun q p hp => hno.out q p (by rw [← HN.out]; exact get_lt hp) hp, rfl⟩, BB.out⟩
end
end Go.Proofs.Yteeadmkljcjjkaa
