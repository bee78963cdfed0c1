/- The document's Check. -/
import Derived.Test.YtlbildodjnjniaaEsP
namespace Go.Proofs.Ytlbildodjnjniaa
open Go.RowKit
theorem any_snoc {α : Type} {l : List α} {q : α → Bool} {k : Nat} {a : α} (h : l[k]? = some a) (h0 : (l.take k).any q = false) (h1 : q a = false) : (l.take (k + 1)).any q = false := by rw [any_take_succ h, h0, h1]; rfl
theorem any_hit {α : Type} {l : List α} {q : α → Bool} {k : Nat} {a : α} (h : l[k]? = some a) (h1 : q a = true) : l.any q = true := List.any_eq_true.2 ⟨a, List.mem_of_getElem? h, h1⟩
theorem badF_true {n : Nat} {f : Fl} (h : ¬ (-1 ≤ f.to ∧ f.to < n ∧ 0 ≤ f.fr ∧ f.fr < n ∧ -1 ≤ f.rf ∧ f.rf ≤ 100)) : badF n f = true := by
  cases hb : badF n f with
  | true => rfl
  | false => exact absurd ((badF_iff n f).1 hb) h
set_option maxHeartbeats 2000000 in
theorem rcheck_any {w : World} {vp vf : Value} {ps : List Pt} {fs : List Fl} (R : PtsAt w vp ps) (F : FlsAt w vf fs) : Calls Try.prog 9 #[vp, vf] w fun e w' => e = .returned (.int .i64 (faultN ps fs)) ∧ Below w.heap.size w w' := by
  obtain ⟨ao, cap, rfl, hP⟩ := R
  obtain ⟨bo, cbp, rfl, hF⟩ := F
  by_cases h1 : 512 < ps.length
  · have e : faultN ps fs = 4 := by unfold faultN; rw [decide_eq_true h1]; rfl
    have h1' : decide (512 < (ps.length : Int)) = true := by simp; omega
    rw [e]
    clear e hP hF
    generalize ps.length = n at *
    generalize fs.length = m at *
    go_enter Try.func9, Try.ntmps9
    go_wp2
    go_ret
    exact ⟨rfl, Below.refl _ _⟩
  · by_cases h2 : 20000 < fs.length
    · have e : faultN ps fs = 4 := by unfold faultN; rw [decide_eq_true h2, Bool.or_true]; rfl
      have h1' : decide (512 < (ps.length : Int)) = false := by simp; omega
      have h2' : decide (20000 < (fs.length : Int)) = true := by simp; omega
      rw [e]
      clear e hP hF
      generalize ps.length = n at *
      generalize fs.length = m at *
      go_enter Try.func9, Try.ntmps9
      go_wp2
      go_ret
      exact ⟨rfl, Below.refl _ _⟩
    · have e0 : faultN ps fs = bif ps.any badP || fs.any (badF ps.length) then 2 else 0 := by unfold faultN; rw [decide_eq_false h1, decide_eq_false h2]; rfl
      have h1' : decide (512 < (ps.length : Int)) = false := by simp; omega
      have h2' : decide (20000 < (fs.length : Int)) = false := by simp; omega
      have b1 : (ps.length : Int) ≤ 512 := by omega
      have b2 : (fs.length : Int) ≤ 20000 := by omega
      have HE := hide e0
      have HP := hide hP
      have HF := hide hF
      clear e0 hP hF
      generalize hn : ps.length = n at *
      generalize hm : fs.length = m at *
      have HN := hide (And.intro hn hm)
      clear hn hm
      go_enter Try.func9, Try.ntmps9
      go_wp2
      go_loopg [5] n (fun K i wr => ∃ j : Nat, i = .int .i64 j ∧ j ≤ n ∧ n - j ≤ K ∧ w = wr ∧ Hid ((ps.take j).any badP = false))
      case atStart => exact ⟨0, rfl, Nat.zero_le _, Nat.le_refl _, rfl, rfl⟩
      case round =>
        obtain ⟨j, rfl, hj, hkk, rfl, HA⟩ := hrel
        obtain ⟨G1, rfl⟩ : ∃ G1, G1 = gk := ⟨gk, rfl⟩
        by_cases hlt : j < n
        · obtain ⟨p, hp⟩ : ∃ p, ps[j]? = some p := ⟨ps[j]'(by rw [HN.out.1]; exact hlt), by simp⟩
          obtain ⟨g, o, rfl, hg, c0, _⟩ := HP.out j p hp
          have hs := hide hp
          have bj : (j : Int) < (n : Int) := by omega
          clear hp
          by_cases q1 : p.d < 0
          · have hbad : badP p = true := by unfold badP; rw [decide_eq_true q1]; rfl
            go_wp2
            go_ret
            exact ⟨ret_int (by rw [HE.out, any_hit hs.out hbad]; rfl), Below.refl _ _⟩
          · have q1' : decide (p.d < 0) = false := by simpa using q1
            by_cases q2 : 512 < p.d
            · have hbad : badP p = true := by unfold badP; rw [decide_eq_true q2, Bool.or_true]
              go_wp2
              go_ret
              exact ⟨ret_int (by rw [HE.out, any_hit hs.out hbad]; rfl), Below.refl _ _⟩
            · have q2' : decide (512 < p.d) = false := by simpa using q2
              have hnx := hide (any_snoc hs.out HA.out (by unfold badP; rw [q1', q2']; rfl))
              go_wp2
              go_roundg (n - (j + 1))
              case measure => omega
              case rel => exact ⟨j + 1, by go_num, by omega, Nat.le_refl _, rfl, hnx⟩
        · obtain rfl : n = j := by omega
          have hpa : ps.any badP = false := by
            have := HA.out
            rwa [List.take_of_length_le (by rw [HN.out.1]; exact Nat.le_refl _)] at this
          rw [hpa, Bool.false_or] at HE
          have HE := HE
          clear hpa HA
          go_wp2
          go_loopg [6] m (fun K i wr => ∃ j : Nat, i = .int .i64 j ∧ j ≤ m ∧ m - j ≤ K ∧ Hid ((fs.take j).any (badF n) = false ∧ Below w.heap.size w wr))
          case atStart => exact ⟨0, rfl, Nat.zero_le _, Nat.le_refl _, rfl, Below.refl _ _⟩
          case round =>
            obtain ⟨j, rfl, hj, hkk, HJ⟩ := hrel
            obtain ⟨G2, rfl⟩ : ∃ G2, G2 = gk := ⟨gk, rfl⟩
            by_cases hlt : j < m
            · obtain ⟨f, hf⟩ : ∃ f, fs[j]? = some f := ⟨fs[j]'(by rw [HN.out.2]; exact hlt), by simp⟩
              obtain ⟨g, o, rfl, hg, c0, c1, c2⟩ := HF.out j f hf
              rw [← HJ.out.2.cell (p := ⟨g, o + j * 3, none⟩) hg] at c0
              rw [← HJ.out.2.cell (p := ⟨g, o + j * 3 + 1, none⟩) hg] at c1
              rw [← HJ.out.2.cell (p := ⟨g, o + j * 3 + 2, none⟩) hg] at c2
              have hs := hide hf
              have hbl := hide (HJ.out.2.alloc HJ.out.2.size (.cells #[.int .i64 f.to, .int .i64 f.fr, .int .i64 f.rf] 42))
              have bj : (j : Int) < (m : Int) := by omega
              clear hf
              by_cases k0 : f.to < -1
              · have k0' : decide (f.to < -1) = true := by simpa using k0
                have hbad : badF n f = true := badF_true (by omega)
                go_wp2
                go_ret
                exact ⟨ret_int (by rw [HE.out, any_hit hs.out hbad]; rfl), hbl.out⟩
              · have k0' : decide (f.to < -1) = false := by simpa using k0
                by_cases k1 : (n : Int) ≤ f.to
                · have k1' : decide ((n : Int) ≤ f.to) = true := by simpa using k1
                  have hbad : badF n f = true := badF_true (by omega)
                  go_wp2
                  go_ret
                  exact ⟨ret_int (by rw [HE.out, any_hit hs.out hbad]; rfl), hbl.out⟩
                · have k1' : decide ((n : Int) ≤ f.to) = false := by simpa using k1
                  by_cases k2 : f.fr < 0
                  · have k2' : decide (f.fr < 0) = true := by simpa using k2
                    have hbad : badF n f = true := badF_true (by omega)
                    go_wp2
                    go_ret
                    exact ⟨ret_int (by rw [HE.out, any_hit hs.out hbad]; rfl), hbl.out⟩
                  · have k2' : decide (f.fr < 0) = false := by simpa using k2
                    by_cases k3 : (n : Int) ≤ f.fr
                    · have k3' : decide ((n : Int) ≤ f.fr) = true := by simpa using k3
                      have hbad : badF n f = true := badF_true (by omega)
                      go_wp2
                      go_ret
                      exact ⟨ret_int (by rw [HE.out, any_hit hs.out hbad]; rfl), hbl.out⟩
                    · have k3' : decide ((n : Int) ≤ f.fr) = false := by simpa using k3
                      by_cases k4 : f.rf < -1
                      · have k4' : decide (f.rf < -1) = true := by simpa using k4
                        have hbad : badF n f = true := badF_true (by omega)
                        go_wp2
                        go_ret
                        exact ⟨ret_int (by rw [HE.out, any_hit hs.out hbad]; rfl), hbl.out⟩
                      · have k4' : decide (f.rf < -1) = false := by simpa using k4
                        by_cases k5 : 100 < f.rf
                        · have k5' : decide (100 < f.rf) = true := by simpa using k5
                          have hbad : badF n f = true := badF_true (by omega)
                          go_wp2
                          go_ret
                          exact ⟨ret_int (by rw [HE.out, any_hit hs.out hbad]; rfl), hbl.out⟩
                        · have k5' : decide (100 < f.rf) = false := by simpa using k5
                          have hnx := hide (any_snoc hs.out HJ.out.1 ((badF_iff n f).2 (by omega)))
                          go_wp2
                          go_roundg (m - (j + 1))
                          case measure => omega
                          case rel => exact ⟨j + 1, by go_num, by omega, Nat.le_refl _, hnx.out, hbl.out⟩
            · obtain rfl : m = j := by omega
              have hfa : fs.any (badF n) = false := by
                have := HJ.out.1
                rwa [List.take_of_length_le (by rw [HN.out.2]; exact Nat.le_refl _)] at this
              rw [hfa] at HE
              go_wp2
              go_ret
              exact ⟨ret_int (by rw [HE.out]; rfl), HJ.out.2⟩
end Go.Proofs.Ytlbildodjnjniaa
