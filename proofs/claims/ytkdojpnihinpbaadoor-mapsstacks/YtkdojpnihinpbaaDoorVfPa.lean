/- Piles: without; slices.Equal; same. -/
import Derived.Test.YtkdojpnihinpbaaDoorVfP
import Derived.Test.YtkdojpnihinpbaaDoorCdSm
namespace Go.Proofs.YtkdojpnihinpbaaDoor
open Go.RowKit
section
variable {X : Nat → Prop} {w : World} {E b b' : Nat} {l l' ks ls : List Int} {v u : Value}
theorem Kp.drew (X : Nat → Prop) (w : World) : Kp X w w.drew := ⟨rfl, rfl, rfl, Nat.le_refl _, fun _ _ _ => rfl⟩
theorem Kp.drewN (X : Nat → Prop) (w : World) (q : Nat) : Kp X w (w.drewN q) := ⟨rfl, rfl, rfl, Nat.le_refl _, fun _ _ _ => rfl⟩
def WoR (X : Nat → Prop) (w : World) (E : Nat) (t : List Int) (a n : Value) : Prop := ∃ (b m : Nat) (l : List Int), a = pp b ∧ n = .int .i64 m ∧ PileAt X w E b l ∧ m ≤ l.length ∧ l.length ≤ 4000000000000 ∧ l.take (l.length - m) = t
theorem wrap_nat {n : Nat} (h : n ≤ 4000000000000) : IntKind.i64.wrap (n : Int) = (n : Int) := by
  have h1 : (n : Int) ≤ 4000000000000 := by omega
  have h2 : (0 : Int) ≤ (n : Int) := by omega
  clear h
  go_arith
theorem take_less {l ks : List Int} {m : Nat} (h : ks.length ≤ m) : (l ++ ks).take ((l ++ ks).length - m) = l.take (l.length - (m - ks.length)) := by
  rw [List.length_append, List.take_append_of_le_length (by omega)]
  congr 1
  omega
theorem take_more {l ks : List Int} {m : Nat} (h : m ≤ ks.length) : (l ++ ks).take ((l ++ ks).length - m) = l ++ ks.take (ks.length - m) := by
  rw [List.length_append, show l.length + ks.length - m = l.length + (ks.length - m) by omega, List.take_length_add_append]
set_option maxRecDepth 100000 in
set_option maxHeartbeats 1000000 in
theorem without_any (R : PileAt X w E b l) {n : Nat} (hn : n ≤ l.length) (hX : ∀ j, X j → j < w.heap.size) (hd : l.length ≤ 4000000000000) :
    Calls Tryd.prog 54 #[pp b, .int .i64 n] w fun e w' => ∃ b', e = .returned (pp b') ∧ PileAt X w' E b' (l.take (l.length - n)) ∧ Below w.heap.size w w' := by
  have HR := hide R
  have HX := hide hX
  have HN := hide hn
  have HD := hide hd
  clear R hX hn
  have hnb : (n : Int) ≤ 4000000000000 := by have := HN.out; omega
  generalize ht : l.take (l.length - n) = t
  have HT := hide ht
  clear ht
  go_enter Tryd.func54, Tryd.ntmps54
  go_wp2
  go_loop [0, 1] (fun a n => WoR X w E t a n) (fun _ n => (intOf n).toNat)
  case atStart => exact ⟨b, n, l, rfl, rfl, HR.out, HN.out, HD.out, HT.out⟩
  case round =>
    obtain ⟨b1, m, l1, rfl, rfl, R1, hm, hd1, ht1⟩ := hrel
    have HR1 := hide R1
    have HT1 := hide ht1
    have hmb : (m : Int) ≤ 4000000000000 := by omega
    clear ht1
    cases R1 with
    | nil h1 _ =>
      have c0 : w.cell? ⟨E, 0, none⟩ = some (.slice none 0 0) := cell_of h1 rfl
      obtain rfl : m = 0 := by simpa using hm
      clear h1 hm
      go_wp2
      go_ret
      exact ⟨E, rfl, by rw [← HT1.out]; exact HR1.out, Below.refl _ _⟩
    | @cons _ b0 l0 ks a c h1 h2 h3 h4 h5 =>
      have c0 : w.cell? ⟨b1, 0, none⟩ = some (.slice a ks.length c) := cell_of h1 rfl
      have c1 : w.cell? ⟨b1, 1, none⟩ = some (pp b0) := cell_of h1 rfl
      have HB1 := hide (lt_of_block h1)
      have H4 := hide h4
      have H5 := hide h5
      have H3 := hide h3
      have k3 : (0 : Int) < (ks.length : Int) := by omega
      rw [List.length_append] at hm hd1
      by_cases hge : ks.length ≤ m
      · have d1 : decide ((ks.length : Int) ≤ (m : Int)) = true := by simp; omega
        have d2 : decide (ks.length ≤ m) = true := by simpa using hge
        have d3 : decide ((0 : Int) < (m : Int)) = true := by simp; omega
        have d4 : decide (0 < m) = true := by simp; omega
        have HGE := hide hge
        have g1 : (ks.length : Int) ≤ (m : Int) := by omega
        have HS := hide (show ((m : Int) - (ks.length : Int)) = ((m - ks.length : Nat) : Int) by omega)
        clear h1 h2 h3 h4 h5 hge
        generalize hkl : ks.length = kl at *
        have HKL := hide hkl
        clear hkl
        go_wp2
        go_round
        case rel =>
          refine ⟨b0, m - kl, l0, rfl, by rw [HS.out], H5.out, by omega, by omega, ?_⟩
          rw [← HT1.out, take_less (by rw [HKL.out]; exact HGE.out), HKL.out]
        case measure => rw [HS.out]; simp [intOf]; omega
      · have d1 : decide ((ks.length : Int) ≤ (m : Int)) = false := by simp; omega
        have d2 : decide (ks.length ≤ m) = false := by simpa using hge
        have HGE := hide (show m ≤ ks.length by omega)
        by_cases h0 : m = 0
        · subst h0
          have d3 : decide ((ks.length : Int) ≤ 0) = false := by simpa using d1
          clear h1 h2 h3 h4 h5 hge d1 d2
          generalize hkl : ks.length = kl at *
          clear hkl
          go_wp2
          all_goals (
            go_ret
            exact ⟨b1, rfl, by rw [← HT1.out, Nat.sub_zero, List.take_length]; exact HR1.out, Below.refl _ _⟩)
        · have q0 : ((m : Int) == 0) = false := beq_eq_false_iff_ne.mpr (by omega)
          have HC := hide (with_any (w := w.drew) (H5.out.keep (Kp.drew X w)) ((H4.out.take (m := ks.length - m) (by omega)).keep (Kp.drew X w)) HX.out (by rw [List.length_take]; omega))
          have HTM := hide (show t = l0 ++ ks.take (ks.length - m) by rw [← HT1.out, take_more HGE.out])
          have hcap : ks.length ≤ c := by
            obtain ⟨_, _, hv, hcp, _⟩ := H4.out
            cases hv
            exact hcp
          obtain ⟨d, hd2⟩ : ∃ d, ks.length - m = d := ⟨_, rfl⟩
          have hs1 : (ks.length : Int) - (m : Int) = (d : Int) := by omega
          have hs2 : IntKind.i64.wrap (d : Int) = (d : Int) := wrap_nat (by omega)
          have e1 : (d : Int) ≤ (c : Int) := by omega
          have e2 : d ≤ c := by omega
          have e3 : (0 : Int) ≤ (d : Int) := by omega
          have hlt1 := HB1.out
          rw [hd2] at HC HTM
          clear h1 h2 h3 h4 h5 hge hm hd1 hd2 hmb k3
          generalize ks.length = kl at *
          go_wp2_with fail
          go_region_held3 (fun w' => w'.cell? ⟨b1, 0, none⟩ = some (.slice a kl c) ∧ w'.cell? ⟨b1, 1, none⟩ = some (pp b0)) (first | go_keep | exact ⟨(hb3.cell (p := ⟨b1, 0, none⟩) hlt1).trans c0, (hb3.cell (p := ⟨b1, 1, none⟩) hlt1).trans c1⟩)
            ((go_at_call 53; refine HC.out.mono ?_; rintro e w3 ⟨b3, rfl, hp3, hb3⟩))
          all_goals (
            go_wp2
            go_ret
            exact ⟨b3, rfl, by rw [HTM.out]; exact hp3, below_of_dr hb3⟩)
end
end Go.Proofs.YtkdojpnihinpbaaDoor
