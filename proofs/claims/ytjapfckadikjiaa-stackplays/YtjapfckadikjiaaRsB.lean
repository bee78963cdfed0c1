/- The document's find, Get, Addr and Sizes. -/
import Derived.Test.YtjapfckadikjiaaRsA
namespace Go.Proofs.Ytjapfckadikjiaa
open Go.RowKit
section
variable {B : Nat} {w w' : World} {vf : Value} {g : Nat → Value} {s : Sk}
/-- What find owes. -/
def FndE (s : Sk) (x : Int) (e : Ending) : Prop :=
  (plc s x = none ∧ e = two (-1, 0)) ∨ ∃ (a i : Nat) (f : List Wo), plc s x = some (pre s.fr a + i) ∧ s.fr[a]? = some f ∧ i < f.length ∧ e = two ((a : Int), (i : Int))
theorem rfind_any (x : Int) (w : World) (R : Rc B w vf g s.fr) (I : SInv s) (hx : x ≤ 9223372036854775807) :
    Calls Try.prog 34 #[rv s vf, .int .i64 x] w fun e w' => FndE s x e ∧ Below w.heap.size w w' := by
  have hfew := I.few
  have hfit := I.fit
  have hm1 := I.m1
  have hb1 := I.b1
  have hb2 := I.b2
  obtain ⟨ao, cp, hv, _⟩ := row_form R.row
  have R1 := hide R
  have HV := hide hv
  have b1 : (s.fr.length : Int) ≤ 1000 := by omega
  rw [hv]
  clear R I hv
  generalize hn : s.fr.length = n at *
  have HN := hide hn
  clear hn
  go_enter Try.func34, Try.ntmps34
  go_wp2
  go_loopw [6, 7] (fun a i wr => ∃ j : Nat, j ≤ n ∧ i = .int .i64 j ∧ a = .int .i64 (s.base + pre s.fr j) ∧ Hid (¬ (s.base ≤ x ∧ x < s.base + pre s.fr j)) ∧ wr = w.alloc (.cells #[.int .i64 s.base, .int .i64 s.most, .slice ao n cp] 31)) (fun _ i _ => n - (intOf i).toNat)
  case atStart => exact ⟨0, Nat.zero_le _, rfl, by rw [pre_zero]; simp, hide (by rw [pre_zero]; omega), rfl⟩
  case round =>
    obtain ⟨j, hj, rfl, rfl, hno, rfl⟩ := hrel
    have hpl := pre_le s.fr j
    have bp : (pre s.fr j : Int) ≤ 65536 := by have : s.fr.flatten.length = s.ws.length := rfl; omega
    by_cases hlt : j < n
    · obtain ⟨f, hf⟩ : ∃ f, s.fr[j]? = some f := ⟨s.fr[j]'(by rw [HN.out]; exact hlt), by simp⟩
      obtain ⟨F, cap, hvf, cf, hF⟩ := R1.out.frame (i := j) (by rw [HN.out]; exact hlt)
      obtain ⟨af, pf, hgf, _⟩ := row_form (R1.out.els j f hf)
      rw [HV.out, HN.out] at hvf
      cases hvf
      rw [hgf] at cf
      have hpg := pre_get hf
      have bf : (pre s.fr j : Int) + (f.length : Int) ≤ 65536 := by have : s.fr.flatten.length = s.ws.length := rfl; omega
      have HS := hide (pre_succ hf)
      have bj : (j : Int) < (n : Int) := by omega
      have d1 : decide (j < n) = true := by simpa using hlt
      have HFin := hide (show ∀ i : Nat, x = s.base + pre s.fr j + i → i < f.length → FndE s x (two ((j : Int), (i : Int))) from fun i hi hil => .inr ⟨j, i, f, by
        have := plc_mk (s := s) (i := pre s.fr j + i) (by have : s.fr.flatten.length = s.ws.length := rfl; omega)
        rw [← this]; congr 1; omega, hf, hil, rfl⟩)
      clear hgf hf hpl hpg
      generalize f.length = k at *
      generalize pre s.fr j = q at *
      by_cases h1 : s.base + (q : Int) ≤ x
      · have d2 : decide (s.base + (q : Int) ≤ x) = true := by simpa using h1
        by_cases h2 : x < s.base + (q : Int) + (k : Int)
        · have d3 : decide (x < s.base + (q : Int) + (k : Int)) = true := by simpa using h2
          obtain ⟨i, rfl⟩ : ∃ i : Nat, x = s.base + (q : Int) + i := ⟨(x - s.base - q).toNat, by omega⟩
          have d4 : s.base + (q : Int) + (i : Int) - (s.base + (q : Int)) = i := by omega
          have HI := hide (HFin.out i rfl (by omega))
          have bi : (i : Int) < (k : Int) := by omega
          clear HFin
          go_wp2
          go_ret2
          exact ⟨HI.out, (Below.refl _ _).alloc (Nat.le_refl _) _⟩
        · have d3 : decide (x < s.base + (q : Int) + (k : Int)) = false := by simpa using h2
          clear HFin
          have HNo := hide (show ¬ (s.base ≤ x ∧ x < s.base + ((q + k : Nat) : Int)) by omega)
          go_wp2
          go_roundw
          case rel => exact ⟨j + 1, by omega, by go_num, by rw [HS.out]; go_num, by rw [HS.out]; exact HNo, by first | rfl | trivial⟩
          case measure => simp [intOf]; omega
      · have d2 : decide (s.base + (q : Int) ≤ x) = false := by simpa using h1
        clear HFin
        have HNo := hide (show ¬ (s.base ≤ x ∧ x < s.base + ((q + k : Nat) : Int)) by have := hno.out; omega)
        go_wp2
        go_roundw
        case rel => exact ⟨j + 1, by omega, by go_num, by rw [HS.out]; go_num, by rw [HS.out]; exact HNo, by first | rfl | trivial⟩
        case measure => simp [intOf]; omega
    · obtain rfl : j = n := by omega
      have d1 : decide (j < j) = false := by simp
      have HP := hide (show plc s x = none by
        unfold plc
        rw [if_neg]
        have h1 : pre s.fr j = s.ws.length := pre_len (by rw [HN.out]; exact Nat.le_refl _)
        have h2 := hno.out
        rw [h1] at h2
        omega)
      go_wp2
      go_ret2
      exact ⟨.inl ⟨HP.out, rfl⟩, (Below.refl _ _).alloc (Nat.le_refl _) _⟩
theorem ws_at {a i : Nat} {f : List Wo} (hf : s.fr[a]? = some f) (hi : i < f.length) : s.ws[pre s.fr a + i]? = f[i]? := by
  unfold Sk.ws
  rw [flat_take_drop s.fr a, List.getElem?_append_right (by simp [pre])]
  have hd : s.fr.drop a = f :: s.fr.drop (a + 1) := by
    have ha := get_lt hf
    rw [List.drop_eq_getElem_cons ha]
    congr 1
    rw [List.getElem?_eq_getElem ha] at hf
    exact Option.some.inj hf
  rw [hd, show pre s.fr a + i - (List.flatten (List.take a s.fr)).length = i by simp [pre], List.flatten_cons, List.getElem?_append_left hi]
theorem rget_any (x : Int) (w : World) (R : Rc B w vf g s.fr) (I : SInv s) (hx : x ≤ 9223372036854775807) :
    Calls Try.prog 17 #[rv s vf, .int .i64 x] w fun e w' => e = two (getP s x) ∧ Below w.heap.size w w' := by
  obtain ⟨W1, hW1⟩ : ∃ W1, w.alloc (.cells #[.int .i64 s.base, .int .i64 s.most, vf] 31) = W1 := ⟨_, rfl⟩
  have R1 : Rc B W1 vf g s.fr := by rw [← hW1]; exact R.alloc _
  have HB := hide (show Below w.heap.size w W1 by rw [← hW1]; exact (Below.refl _ _).alloc (Nat.le_refl _) _)
  have cc : W1.cell? ⟨w.heap.size, 2, none⟩ = some vf := by rw [← hW1]; simp
  have zz : W1.heap.size = w.heap.size + 1 := by rw [← hW1]; simp
  have ha := rfind_any (w := W1) x R1 I hx
  have HA := hide ha
  have HR := hide R1
  have hfew := I.few
  have hfit := I.fit
  have hm1 := I.m1
  clear ha R1 R I
  subst hW1
  go_enter Try.func17, Try.ntmps17
  go_wp2_with fail
  refine HA.out.mono ?_
  rintro e w1 ⟨ho, hb⟩
  have cc1 : w1.cell? ⟨w.heap.size, 2, none⟩ = some vf := by rw [hb.cell (p := ⟨w.heap.size, 2, none⟩) (by show w.heap.size < _; rw [zz]; omega)]; exact cc
  have R2 := hide (HR.out.below hb)
  have HB2 := hide (HB.out.trans (hb.mono (by omega)))
  clear hb HA HR HB cc zz
  unfold FndE at ho
  rcases ho with ⟨ho, rfl⟩ | ⟨a, i, f, ho, hf, hi, rfl⟩
  · have HO := hide (show getP s x = (0, 6) by unfold getP; rw [ho])
    clear ho
    go_wp2
    go_ret2
    exact ⟨by rw [HO.out]; rfl, HB2.out⟩
  · have hu : f[i]? = some f[i] := List.getElem?_eq_getElem hi
    generalize f[i] = u at hu
    have HO := hide (show getP s x = (u.v, 0) by unfold getP; rw [ho]; simp [ws_at hf hi, hu])
    obtain ⟨F, cap, hvf, cf, hF⟩ := R2.out.frame (get_lt hf)
    obtain ⟨b, c2, hgb, cu, _, _, hbl⟩ := R2.out.word hf hu
    rw [hvf] at cc1
    rw [hgb] at cf
    have ba : (a : Int) < (s.fr.length : Int) := by have := get_lt hf; omega
    have bi : (i : Int) < (f.length : Int) := by omega
    have bl : (f.length : Int) ≤ 65536 := by have := pre_get hf; have : s.fr.flatten.length = s.ws.length := rfl; omega
    have d0 : decide ((a : Int) < 0) = false := by simp
    clear ho hvf hgb hf hu
    generalize s.fr.length = n at *
    generalize f.length = k at *
    go_wp2
    go_ret2
    exact ⟨by rw [HO.out]; rfl, HB2.out⟩
end
end Go.Proofs.Ytjapfckadikjiaa
