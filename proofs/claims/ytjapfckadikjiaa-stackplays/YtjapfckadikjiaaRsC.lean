/- The document's Addr and Sizes. -/
import Derived.Test.YtjapfckadikjiaaRsB
namespace Go.Proofs.Ytjapfckadikjiaa
open Go.RowKit
section
variable {B : Nat} {w w' : World} {vf : Value} {g : Nat → Value} {s : Sk}
set_option maxHeartbeats 2000000 in
theorem raddr_any (x y : Int) (w : World) (R : Rc B w vf g s.fr) (I : SInv s) :
    Calls Try.prog 15 #[rv s vf, .int .i64 x, .int .i64 y] w fun e w' => e = two (addrP s x y) ∧ Below w.heap.size w w' := by
  obtain ⟨ao, cp, hv, _⟩ := row_form R.row
  have hfew := I.few
  have hfit := I.fit
  have hm1 := I.m1
  have hb1 := I.b1
  have hb2 := I.b2
  have HV := hide hv
  have R1 := hide R
  have IH := hide I
  have BB := hide (show Below w.heap.size w (w.alloc (.cells #[.int .i64 s.base, .int .i64 s.most, .slice ao s.fr.length cp] 31)) from (Below.refl _ _).alloc (Nat.le_refl _) _)
  unfold addrP
  cases h : adr s x y with
  | none =>
    simp only []
    rw [hv]
    rcases adr_none h with h1 | h1 | ⟨i, f, rfl, hf, h1⟩
    · have d1 : decide (x < 0) = true := by simpa using h1
      clear h hv R I h1
      go_enter Try.func15, Try.ntmps15
      go_wp2
      go_ret2
      exact ⟨rfl, BB.out⟩
    · have d1 : decide (x < 0) = false := by simp; omega
      have d2 : decide ((s.fr.length : Int) ≤ x) = true := by simpa using h1
      clear h hv R I h1
      generalize s.fr.length = n at *
      go_enter Try.func15, Try.ntmps15
      go_wp2
      go_ret2
      exact ⟨rfl, BB.out⟩
    · have hi := get_lt hf
      obtain ⟨F, cap, hvf, cf, hF⟩ := R.frame hi
      obtain ⟨af, pf, hgf, _⟩ := row_form (R.els i f hf)
      rw [hv] at hvf
      cases hvf
      rw [hgf] at cf
      have b1 : (i : Int) < (s.fr.length : Int) := by omega
      have d1 : decide ((i : Int) < 0) = false := by simp
      have d2 : decide ((s.fr.length : Int) ≤ (i : Int)) = false := by simp; omega
      have d3 : decide (s.fr.length ≤ i) = false := by simp; omega
      clear h hv R I hf hgf
      generalize s.fr.length = n at *
      generalize f.length = k at *
      rcases h1 with h1 | h1
      · have d4 : decide (y < 0) = true := by simpa using h1
        go_enter Try.func15, Try.ntmps15
        go_wp2
        go_ret2
        exact ⟨rfl, BB.out⟩
      · have d4 : decide (y < 0) = false := by simp; omega
        have d5 : decide ((k : Int) ≤ y) = true := by simpa using h1
        go_enter Try.func15, Try.ntmps15
        go_wp2
        go_ret2
        exact ⟨rfl, BB.out⟩
  | some p =>
    obtain ⟨i, k⟩ := p
    simp only []
    obtain ⟨rfl, rfl, f, hf, hk⟩ := adr_some h
    have hi := get_lt hf
    obtain ⟨F, cap, hvf, cf, hF⟩ := R.frame hi
    obtain ⟨af, pf, hgf, _⟩ := row_form (R.els i f hf)
    have hfr := rfrom_any (w := w.alloc (.cells #[.int .i64 s.base, .int .i64 s.most, vf] 31)) (R.alloc _) I (Nat.le_of_lt hi)
    rw [hv] at hvf hfr ⊢
    cases hvf
    rw [hgf] at cf
    have hpl := pre_get hf
    have b1 : (i : Int) < (s.fr.length : Int) := by omega
    have b2 : (pre s.fr i : Int) ≤ 65536 := by have : s.fr.flatten.length = s.ws.length := rfl; omega
    have b3 : (k : Int) < (f.length : Int) := by omega
    have b4 : (f.length : Int) ≤ 65536 := by have : s.fr.flatten.length = s.ws.length := rfl; omega
    have d1 : decide ((i : Int) < 0) = false := by simp
    have d2 : decide ((s.fr.length : Int) ≤ (i : Int)) = false := by simp; omega
    have d3 : decide (s.fr.length ≤ i) = false := by simp; omega
    have d4 : decide ((k : Int) < 0) = false := by simp
    have d5 : decide ((f.length : Int) ≤ (k : Int)) = false := by simp; omega
    have d6 : decide (f.length ≤ k) = false := by simp; omega
    have HFr := hide hfr
    clear h hv R I hf hpl hfit hm1 hgf hfr
    generalize s.fr.length = n at *
    generalize f.length = m at *
    generalize pre s.fr i = q at *
    go_enter Try.func15, Try.ntmps15
    go_wp2_with fail
    refine HFr.out.mono ?_
    rintro e w1 ⟨rfl, hb⟩
    have HB2 := hide (BB.out.trans (hb.mono BB.out.size))
    clear hb HFr
    go_wp2
    go_ret2
    exact ⟨rfl, HB2.out⟩
theorem lens_take {j : Nat} {f : List Wo} (h : s.fr[j]? = some f) : addrs ((lensP s).take (j + 1)) = addrs ((lensP s).take j) ++ [.int .i64 (f.length : Int)] := by
  rw [List.take_add_one, lensP_get h]
  simp [addrs]
set_option maxHeartbeats 1000000 in
theorem rsizes_any (w : World) (R : Rc B w vf g s.fr) (I : SInv s) :
    Calls Try.prog 24 #[rv s vf] w fun e w' => ∃ v, e = .returned v ∧ w'.ownsRow w.heap.size 3 1 v s.fr.length (addrs (lensP s)) ∧ Below w.heap.size w w' := by
  have hfew := I.few
  have hfit := I.fit
  have hm1 := I.m1
  obtain ⟨ao, cp, hv, _⟩ := row_form R.row
  have R1 := hide R
  have HV := hide hv
  have b1 : (s.fr.length : Int) ≤ 1000 := by omega
  rw [hv]
  clear R I hv
  generalize hn : s.fr.length = n at *
  have HN := hide hn
  clear hn
  obtain ⟨W1, hW1⟩ : ∃ W1, (w.alloc (.cells #[.int .i64 s.base, .int .i64 s.most, .slice ao n cp] 31)).alloc (.cells #[] 3) = W1 := ⟨_, rfl⟩
  have hW1' := hide hW1
  have z1 : W1.heap.size = w.heap.size + 1 + 1 := by rw [← hW1]; simp
  have Z1 := hide z1
  have bx : W1.heap[w.heap.size]? = some (.cells #[.int .i64 s.base, .int .i64 s.most, .slice ao n cp] 31 (0, 0)) := by rw [← hW1, Below.heap_alloc _ _ _ (by simp), heap_new _ _ rfl]
  have BX := hide bx
  have BW := hide (show Below w.heap.size w W1 by rw [← hW1]; exact ((Below.refl _ _).alloc (Nat.le_refl _) _).alloc (by simp) _)
  have h0 : W1.heap[w.heap.size + 1]? = some (.cells #[] 3 (0, 0)) := by rw [← hW1, heap_new _ _ (by simp)]
  have H0 := hide h0
  have RW := hide (show Rc B W1 vf g s.fr by rw [← hW1]; exact (R1.out.alloc _).alloc _)
  clear bx h0 z1
  go_enter Try.func24, Try.ntmps24
  go_wp2
  clear hW1
  go_loopw [3, 4] (fun a i wr => ∃ j : Nat, j ≤ n ∧ i = .int .i64 j ∧ wr.ownsRow (w.heap.size + 1) 3 1 a j (addrs ((lensP s).take j)) ∧ Below (w.heap.size + 1) W1 wr) (fun _ i _ => n - (intOf i).toNat)
  case atStart => exact ⟨0, Nat.zero_le _, rfl, ⟨by simp [addrs], .inr ⟨w.heap.size + 1, 0, #[], rfl, Nat.le_refl _, H0.out, Nat.le_refl _, by decide, by simp, by simp [addrs]⟩⟩, Below.refl _ _⟩
  case round =>
    obtain ⟨j, hj, rfl, hown, hb⟩ := hrel
    have hwz := hb.size
    rw [Z1.out] at hwz
    have c2 : wr.cell? ⟨w.heap.size, 2, none⟩ = some (.slice ao n cp) := by rw [hb.cell (p := ⟨w.heap.size, 2, none⟩) (by show w.heap.size < w.heap.size + 1; omega)]; exact cell_of BX.out
    by_cases hlt : j < n
    · obtain ⟨f, hf⟩ : ∃ f, s.fr[j]? = some f := ⟨s.fr[j]'(by rw [HN.out]; exact hlt), by simp⟩
      obtain ⟨F, cap, hvf, cf0, hF⟩ := R1.out.frame (i := j) (by rw [HN.out]; exact hlt)
      obtain ⟨af, pf, hgf, _⟩ := row_form (R1.out.els j f hf)
      rw [HV.out, HN.out] at hvf
      cases hvf
      rw [hgf] at cf0
      have cf : wr.cell? ⟨F, j, none⟩ = some (.slice af f.length pf) := by
        rw [hb.cell (p := ⟨F, j, none⟩) (by show F < w.heap.size + 1; omega), BW.out.cell (p := ⟨F, j, none⟩) hF]; exact cf0
      have hpg := pre_get hf
      have bf : (f.length : Int) ≤ 65536 := by have : s.fr.flatten.length = s.ws.length := rfl; omega
      have HS := hide (lens_take hf)
      have bj : (j : Int) < (n : Int) := by omega
      have d1 : decide (j < n) = true := by simpa using hlt
      clear hgf hf hpg cf0
      generalize f.length = k at *
      obtain ⟨W3, hW3⟩ : ∃ W3, wr.alloc (.cells #[.int .i64 (k : Int)] 3) = W3 := ⟨_, rfl⟩
      have z3 : W3.heap.size = wr.heap.size + 1 := by rw [← hW3]; simp
      have hnb : W3.heap[wr.heap.size]? = some (.cells #[.int .i64 (k : Int)] 3 (0, 0)) := by rw [← hW3, heap_new _ _ rfl]
      have own3 := hown.alloc (.cells #[.int .i64 (k : Int)] 3)
      rw [hW3] at own3
      obtain ⟨ga, capa, w4, hrun, hown4, hgrow, hat, hltg⟩ := run_app1 own3 hnb (by omega) (by omega)
      have HO4 := hide hown4
      have HB4 := hide (show Below (w.heap.size + 1) W1 w4 from Below.grown (by rw [← hW3]; exact hb.alloc (by omega) _) hgrow (by omega) (fun q hq => (hown.lt q hq).1))
      obtain ⟨aa, ca, hav, _⟩ := row_form hown
      subst hav
      clear hown4 hgrow hat own3 hnb hown hb z3
      subst hW3
      go_wp2_with (at_builtin; refine wpList_append_eq rfl _ _ 50 rfl rfl rfl hrun ?_)
      go_wp2
      go_roundw
      case rel => exact ⟨j + 1, by omega, by go_num, by rw [HS.out]; exact HO4.out, HB4.out⟩
      case measure => simp [intOf]; omega
    · obtain rfl : j = n := by omega
      have d1 : decide (j < j) = false := by simp
      go_wp2
      go_ret
      rw [show (lensP s).take j = lensP s from List.take_of_length_le (by rw [lens_len, HN.out]; exact Nat.le_refl _)] at hown
      exact ⟨_, rfl, row_mono hown (by omega), BW.out.trans (hb.mono (by omega))⟩
end
end Go.Proofs.Ytjapfckadikjiaa
