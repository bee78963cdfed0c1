/- The document's Live, and SameInts. -/
import Derived.Test.YteeadmkljcjjkaaArRb
namespace Go.Proofs.Yteeadmkljcjjkaa
open Go.RowKit Go.Maps

theorem liveR_snoc {ps : List Rp} {j : Nat} {p : Rp} (h : ps[j]? = some p) : liveR (ps.take (j + 1)) = liveR (ps.take j) ++ if p.f then [] else [p.a] := by
  have : ps.take (j + 1) = ps.take j ++ [p] := by rw [List.take_add_one, h]; rfl
  rw [this]
  unfold liveR
  cases hf : p.f <;> simp [hf]
theorem liveR_le (ps : List Rp) (j : Nat) : (liveR (ps.take j)).length ≤ j := by
  unfold liveR
  rw [List.length_map]
  exact Nat.le_trans (List.length_filter_le _ _) (by simp; omega)
section
variable {B : Nat} {r : Rs} {vp vs : Value} {w : World}
set_option maxHeartbeats 1000000 in
theorem rlive_any (R : RL B w r vp vs) :
    Calls Try.prog 25 #[rv r vp vs] w fun e w' => ∃ v, e = .returned v ∧ w'.ownsRow w.heap.size 3 1 v (liveR r.ps).length (addrs (liveR r.ps)) ∧ Below w.heap.size w w' := by
  obtain ⟨ao, cp, rfl⟩ := R.pform
  have hlen := R.bp
  obtain ⟨W1, hW1⟩ : ∃ W1, (w.alloc (.cells #[.int .i64 r.wd, .int .i64 r.ln, .slice ao r.ps.length cp, .int .i64 r.fd, vs] 31)).alloc (.cells #[] 3) = W1 := ⟨_, rfl⟩
  have R1 := hide (show RL B W1 r (.slice ao r.ps.length cp) vs by rw [← hW1]; exact (R.alloc _).alloc _)
  have HB := hide (show Below w.heap.size w W1 by rw [← hW1]; exact ((Below.refl _ _).alloc (Nat.le_refl _) _).alloc (by simp) _)
  have HC := hide (show W1.cell? ⟨w.heap.size, 2, none⟩ = some (.slice ao r.ps.length cp) by rw [← hW1]; simp)
  have HZ := hide (show w.heap.size < W1.heap.size by rw [← hW1]; simp; omega)
  have HO := hide (show W1.ownsRow w.heap.size 3 1 (.slice (some ⟨w.heap.size + 1, 0, none⟩) 0 0) 0 [] by
    rw [← hW1]
    exact ⟨rfl, .inr ⟨w.heap.size + 1, 0, #[], rfl, by omega, heap_new _ _ (by simp), Nat.le_refl _, by decide, rfl, rfl⟩⟩)
  have HO2 := hide (show ∀ g, (Value.slice (some ⟨w.heap.size + 1, 0, none⟩) 0 0).ownBlock = some g → g ≠ w.heap.size by intro g hg; simp [Value.ownBlock] at hg; omega)
  have HLT := hide (show (∀ g, (Value.slice ao r.ps.length cp).ownBlock = some g → g < w.heap.size) ∧ (∀ g, vs.ownBlock = some g → g < w.heap.size) from ⟨fun g hg => (R.pcs.lt g hg).2, fun g hg => (R.sto.lt g hg).2⟩)
  clear R
  generalize hn : r.ps.length = n at *
  have HN := hide hn
  clear hn
  subst hW1
  go_enter Try.func25, Try.ntmps25
  go_wp2
  go_loopw [3, 4] (fun l i wr => ∃ j : Nat, j ≤ n ∧ i = .int .i64 j ∧ Hid (wr.ownsRow w.heap.size 3 1 l (liveR (r.ps.take j)).length (addrs (liveR (r.ps.take j)))) ∧ Hid (∀ g, l.ownBlock = some g → g ≠ w.heap.size) ∧ Hid (RL B wr r (.slice ao n cp) vs) ∧ Hid (Below w.heap.size w wr) ∧ wr.cell? ⟨w.heap.size, 2, none⟩ = some (.slice ao n cp) ∧ w.heap.size < wr.heap.size) (fun _ i _ => n - (intOf i).toNat)
  case atStart => exact ⟨0, Nat.zero_le _, rfl, HO, HO2, R1, HB, HC.out, HZ.out⟩
  case round =>
    obtain ⟨j, hj, rfl, hown, hne, RR, BB, cc, zz⟩ := hrel
    clear R1 HB HC HZ HO HO2
    by_cases hlt : j < n
    · obtain ⟨p, hp⟩ : ∃ p, r.ps[j]? = some p := ⟨r.ps[j]'(by rw [HN.out]; exact hlt), by simp⟩
      obtain ⟨g, cap, hv, hg, d1, d2, d3, d4, _⟩ := RR.out.piece hp
      obtain rfl : ao = some ⟨g, 0, none⟩ := (Value.slice.inj hv).1
      have bj : (j : Int) < (n : Int) := by omega
      have hll := liveR_le r.ps j
      have HS := hide (liveR_snoc hp)
      clear hv hp
      generalize liveR (r.ps.take j) = ls at *
      cases hf : p.f with
      | true =>
        rw [hf] at d3
        have HF := hide hf
        clear hf
        go_wp2
        go_roundw
        case rel => exact ⟨j + 1, by omega, by go_num, by rw [HS.out, HF.out]; simpa using hown, hne, RR, BB, cc, zz⟩
        case measure => simp [intOf]; omega
      | false =>
        rw [hf] at d3
        have HF := hide hf
        clear hf
        obtain ⟨W3, hW3⟩ : ∃ W3, wr.alloc (.cells #[.int .i64 (p.a : Int)] 3) = W3 := ⟨_, rfl⟩
        have z3 : W3.heap.size = wr.heap.size + 1 := by rw [← hW3]; simp
        have hnb : W3.heap[wr.heap.size]? = some (.cells #[.int .i64 (p.a : Int)] 3 (0, 0)) := by rw [← hW3, heap_new _ _ rfl]
        have own3 := hown.out.alloc (.cells #[.int .i64 (p.a : Int)] 3)
        rw [hW3] at own3
        obtain ⟨ga, capa, w4, hrun, hown4, hgrow, hat, hltg⟩ := run_app1 own3 hnb (by omega) (by omega)
        have B3 : Below w.heap.size w W3 := by rw [← hW3]; exact BB.out.alloc (by omega) _
        have HO4 := hide hown4
        have hgne : ga ≠ w.heap.size := by
          rcases hat with e | e
          · exact hne.out ga e
          · omega
        have HB4 := hide (show Below w.heap.size w w4 from B3.grown hgrow (by omega) (fun q hq => (hown.out.lt q hq).1))
        have R3 : RL B W3 r (.slice (some ⟨g, 0, none⟩) n cp) vs := by rw [← hW3]; exact RR.out.alloc _
        have hlow : ∀ q, q < w.heap.size → w4.heap[q]? = W3.heap[q]? := fun q hq => hgrow.block q (by omega) (fun e => by have := (hown.out.lt q e.symm).1; omega)
        have HR4 := hide (R3.keep (w' := w4) (fun q hq => hlow q (HLT.out.1 q hq)) (fun q hq => hlow q (HLT.out.2 q hq)) hgrow.size)
        have cc4 : w4.cell? ⟨w.heap.size, 2, none⟩ = some (.slice (some ⟨g, 0, none⟩) n cp) := by
          rw [hgrow.cell_far ⟨w.heap.size, 2, none⟩ (by show w.heap.size < _; omega) (fun e => hne.out _ e.symm rfl), ← hW3, Lib.cell?_alloc_some _ cc]
        have zz4 : w.heap.size < w4.heap.size := by have := hgrow.size; omega
        have HNE := hide (show ∀ q, (Value.slice (some ⟨ga, 0, none⟩) (ls.length + 1) capa).ownBlock = some q → q ≠ w.heap.size by intro q hq; simp [Value.ownBlock] at hq; omega)
        clear hown4 hgrow hat own3 hnb B3 R3 hlow hgne
        subst hW3
        go_wp2_with (at_builtin; refine wpList_append_eq rfl _ _ 29 rfl rfl rfl hrun ?_)
        go_wp2
        go_roundw
        case rel => exact ⟨j + 1, by omega, by go_num, by rw [HS.out, HF.out]; simp only [Bool.false_eq_true, if_false, List.length_append, List.length_singleton]; rw [show addrs (ls ++ [p.a]) = addrs ls ++ [.int .i64 (p.a : Int)] by simp [addrs]]; exact HO4, HNE, HR4, HB4, cc4, zz4⟩
        case measure => simp [intOf]; omega
    · obtain rfl : j = n := by omega
      go_wp2
      go_ret
      rw [← HN.out, List.take_length] at hown
      exact ⟨_, rfl, hown.out, BB.out⟩
set_option maxHeartbeats 1000000 in
theorem same_any {B1 B2 : Nat} {va vb : Value} {l : List Nat} (h1 : w.ownsRow B1 3 1 va l.length (addrs l)) (h2 : w.ownsRow B2 3 1 vb l.length (addrs l)) (hl : l.length ≤ 70000) :
    Calls Try.prog 23 #[va, vb] w fun e w' => e = .returned (.bool true) ∧ Below w.heap.size w w' := by
  obtain ⟨aa, ca, rfl⟩ := row_form h1
  obtain ⟨ab, cb, rfl⟩ := row_form h2
  have H1 := hide h1
  have H2 := hide h2
  clear h1 h2
  generalize hn : l.length = n at *
  have HN := hide hn
  clear hn
  go_enter Try.func23, Try.ntmps23
  go_wp2
  go_loopw [5] (fun i wr => ∃ j q : Nat, j ≤ n ∧ i = .int .i64 j ∧ wr = w.drewN q) (fun i _ => n - (intOf i).toNat)
  case atStart => exact ⟨0, 0, Nat.zero_le _, rfl, rfl⟩
  case round =>
    obtain ⟨j, q, hj, rfl, rfl⟩ := hrel
    by_cases hlt : j < n
    · obtain ⟨u, hu⟩ : ∃ u, l[j]? = some u := ⟨l[j]'(by rw [HN.out]; exact hlt), by simp⟩
      obtain ⟨ga, capa, hva, c1, _, _⟩ := row_cell H1.out (addrs_get hu)
      obtain ⟨gb, capb, hvb, c2, _, _⟩ := row_cell H2.out (addrs_get hu)
      obtain rfl : aa = some ⟨ga, 0, none⟩ := (Value.slice.inj hva).1
      obtain rfl : ab = some ⟨gb, 0, none⟩ := (Value.slice.inj hvb).1
      have bj : (j : Int) < (n : Int) := by omega
      clear hva hvb hu
      go_wp2
      go_quiet (fail)
      go_wp2
      go_roundw
      case rel => exact ⟨j + 1, q + nq, by omega, by go_num, rfl⟩
      case measure => simp [intOf]; omega
    · obtain rfl : j = n := by omega
      go_wp2
      go_ret
      exact ⟨rfl, below_drewN (Below.refl _ _) q⟩
end
end Go.Proofs.Yteeadmkljcjjkaa
