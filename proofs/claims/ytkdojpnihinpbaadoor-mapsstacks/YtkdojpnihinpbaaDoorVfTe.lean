/- takes: a call through a table; all. -/
import Derived.Test.YtkdojpnihinpbaaDoorVfTd
namespace Go.Proofs.YtkdojpnihinpbaaDoor
open Go.RowKit
section
variable {B A : Nat} {w w' : World} {p : Pg} {f : Fd} {V : Fv} {fi at_ mo : Int}
set_option maxRecDepth 100000 in
set_option maxHeartbeats 1000000 in
theorem tk_23 (F : FlAt B w A p f V fi at_ mo) (i : In3) (hn : p.ty.length ≤ 1024) (ho : i.o = 23) {t m0 : Nat} {tb : List Int} {g : Fd} (ha : i.a = (t : Int)) (ht : p.ta[t]? = some tb) (h0 : tb[0]? = some (m0 : Int)) (hx : p.fu[m0]? = some g) (hp : 0 ≤ g.pa ∧ g.pa ≤ (g.lo.length : Int)) (hk : ∀ k ∈ parK g, isKB p.ty.length k = true) (hl : g.lo.length ≤ 4096) : Calls Tryd.prog 80 #[.pointer (some ⟨A, 0, none⟩), .agg #[.int .i64 i.o, .int .i64 i.a, .int .i64 i.b]] w (TksO p.ty.length (.fit (parK g ++ [0])) w) := by
  obtain ⟨W1, hW1⟩ : ∃ W1, w.alloc (.cells #[.int .i64 i.o, .int .i64 i.a, .int .i64 i.b] 47) = W1 := ⟨_, rfl⟩
  have b1 : Below w.heap.size w W1 := by rw [← hW1]; exact (Below.refl _ _).alloc (Nat.le_refl _) _
  have F1 := F.below b1
  have HB := hide b1
  have HF1 := hide F1
  have hI : W1.heap[w.heap.size]? = some (.cells #[.int .i64 i.o, .int .i64 i.a, .int .i64 i.b] 47 (0, 0)) := by rw [← hW1]; exact heap_new _ _ rfl
  have i0 : W1.cell? ⟨w.heap.size, 0, none⟩ = some (.int .i64 i.o) := cell_of hI rfl
  have i1 : W1.cell? ⟨w.heap.size, 1, none⟩ = some (.int .i64 i.a) := cell_of hI rfl
  have hlA := lt_of_block F.box
  have hlI := lt_of_block hI
  have HN := hide hn
  clear b1 F1 hI F hn
  obtain ⟨v1, v2, v3, v4, ⟨r1, r2, r3, r4⟩, CI⟩ := item_any HF1.out ht h0 hx
  obtain ⟨x1, z1, rfl⟩ := sl_form r1
  obtain ⟨q, hq⟩ : ∃ q : Nat, g.pa = (q : Int) := ⟨g.pa.toNat, by omega⟩
  have hpl : (parK g).length = q := by unfold parK; rw [hq, List.length_take]; simp; omega
  have HS := hide (show SlAt 1 IntP B W1 (.slice x1 q z1) (parK g) from by
    have := ints_take r1 q (by omega)
    unfold parK
    rw [hq]
    exact this)
  have hcap : q ≤ g.lo.length ∧ g.lo.length ≤ z1 := by
    obtain ⟨_, _, h1, h2, _⟩ := r1
    cases h1
    omega
  have HPA := hide (fun W : World => params_at W (ao := x1) (v2 := v2) (v3 := v3) (v4 := v4) hcap.1 hcap.2)
  have HQ := hide (show q ≤ 4096 by omega)
  rw [hq] at CI
  have HCI := hide CI
  have HT := hide (fun (W : World) (h : Below w.heap.size w W) (a : Option Addr) (c T : Nat) (K : IsAt (fun _ => False) W (.slice a (q + 1) c) (parK g ++ [0])) => by
    have hq1 : (parK g ++ [0]).length = q + 1 := by rw [List.length_append, hpl]; rfl
    have := tks_fit (w := w) (T := T) (os := parK g ++ [0]) (a := a) (cap := c) HN.out h (by
      intro o ho
      rw [List.mem_append] at ho
      rcases ho with ho | ho
      · exact hk o ho
      · simp at ho
        subst ho
        exact kb_0 _) (by rw [hq1]; omega) (hq1.symm ▸ K)
    rw [hq1] at this
    exact this)
  have HPL := hide hpl
  rw [ha] at i1 hW1 ⊢
  clear ht h0 hx hp hk hl ha r1 r2 r3 r4 HN hq hpl hcap CI
  generalize g.lo.length = l1 at *
  rw [ho] at i0 hW1 ⊢
  clear ho
  go_enter Tryd.func80, Tryd.ntmps80
  go_wp2_with fail
  refine HCI.out.mono ?_
  rintro e w2 ⟨rfl, hb2⟩
  have HB2 := hide hb2
  clear hb2
  go_wp2_with fail
  refine (HPA.out _).mono ?_
  rintro e w3 ⟨rfl, hb3⟩
  have HB3 := hide (bel_tr HB2.out hb3)
  clear hb3
  have HC := hide (clone_any (w := w3) (is_of_sl (X := fun _ => False) (ints_keep (Nat.le_refl _) (fun j hj => HB3.out.block j (Nat.lt_of_lt_of_le hj HF1.out.hB)) HS.out) (Nat.le_trans HF1.out.hB HB3.out.size) (fun _ _ h => h)) (by rw [HPL.out]; have := HQ.out; omega))
  go_wp2_with fail
  refine HC.out.mono ?_
  rintro e w4 ⟨v', rfl, hown, hb4⟩
  have hown2 : (w4.alloc (.cells #[.int .i64 0] 3)).ownsRow w3.heap.size 3 1 v' (parK g).length (intsV (parK g)) := ownsRow_keep hown fun q hq => Below.heap_alloc _ _ _ (by
    rcases hown.2 with ⟨h, _⟩ | ⟨g', cap, cur, h, _, h2, _⟩
    · rw [h] at hq; cases hq
    · rw [h] at hq; cases hq; exact lt_of_block h2)
  have hz4 : (w4.alloc (.cells #[.int .i64 0] 3)).heap.size = w4.heap.size + 1 := by simp
  obtain ⟨ga, capa, w5, hrun, hown5, hgrow, _, _⟩ := run_app1 (b := w4.heap.size) (a := 0) hown2 (heap_new _ _ rfl) (by rw [HPL.out]; have := HQ.out; omega) (by have := hb4.size; omega)
  have HB5 := hide (show Below w.heap.size w w5 from by
    have h1 : Below w3.heap.size w3 (w4.alloc (.cells #[.int .i64 0] 3)) := hb4.alloc hb4.size _
    have h2 := h1.trans (grown_below hown2 hgrow (by have := hb4.size; omega))
    exact bel_tr HB.out (bel_tr HB3.out h2))
  have HI5 := hide (show IsAt (fun _ => False) w5 (.slice (some ⟨ga, 0, none⟩) (q + 1) capa) (parK g ++ [0]) from by
    have h1 := row_is (l := parK g ++ [0]) (by simpa using hown5) (by simp)
    rw [HPL.out] at h1
    exact h1.sub (fun _ _ h => h.elim))
  rw [HPL.out] at hrun
  clear hown hown2 hown5 hgrow hb4 hz4
  go_wp2_with (at_builtin; refine wpList_append_eq rfl _ _ 37 37 rfl rfl rfl hrun ?_; clear hrun)
  refine (fitting_any _ _ _ _).mono ?_
  rintro e w6 ⟨rfl, rfl⟩
  go_wp2
  go_ret2
  exact HT.out _ HB5.out _ _ _ HI5.out
end
end Go.Proofs.YtkdojpnihinpbaaDoor
