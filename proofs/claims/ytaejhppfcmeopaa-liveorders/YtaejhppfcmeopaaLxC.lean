/- Order, walked. -/
import Derived.Test.YtaejhppfcmeopaaLxB
namespace Go.Proofs.Ytaejhppfcmeopaa
open Go.RowKit
section
variable {w : World}
theorem order_zero {ao : Option Addr} {cap : Nat} : Calls Try.prog 25 #[.slice ao 0 cap] w fun e w' => e = .returned (.slice none 0 0) ∧ Below w.heap.size w w' := by
  have D0 := od_new (w := w) (ao := ao) (n := 0) (cap := cap)
  have HD := hide D0
  have c4 := cell_of (o := 0) D0.l rfl
  clear D0
  go_enter Try.func25, Try.ntmps25
  go_upto_region 5 with (fail)
  generalize (((w.alloc (.cells #[.slice ao 0 cap] 22)).alloc (.cells zc 64)).alloc (.cells #[.slice none 0 0] 34)).alloc (.cells #[.func (.func 40) #[] #[pp (w.heap.size + 1), pp w.heap.size, pp (w.heap.size + 1 + 1 + 1), pp (w.heap.size + 1 + 1)]] 70) = W0 at *
  have cb := cell_of (o := 0) HD.out.b rfl
  have lb := lt_of_block HD.out.b
  have l4 := lt_of_block HD.out.l
  go_wp2_with (go_at_call 43; refine reverse_nil.mono ?_; rintro e w2 ⟨⟨v2, rfl⟩, hw2⟩; rw [hw2]; clear hw2)
  go_ret
  exact ⟨rfl, HD.out.bel⟩
theorem order_any {v : Value} {bs : List Blk} {K : Nat} (S : Snd bs K) (R : BlksAt w v bs) : Calls Try.prog 25 #[v] w fun e w' => ∃ v', e = .returned v' ∧ w'.ownsRow w.heap.size 3 1 v' (zs (ordP bs)).length (ints (zs (ordP bs))) ∧ Below w.heap.size w w' := by
  have R0 := R
  obtain ⟨ao, cap, rfl, _⟩ := R
  by_cases h0 : bs = []
  · subst h0
    exact order_zero.mono (fun e w' ⟨h1, h2⟩ => ⟨_, h1, ⟨rfl, .inl ⟨rfl, rfl⟩⟩, h2⟩)
  · exact order_pos S rfl (List.length_pos_iff.mpr h0) R0
theorem orderp_any {v : Value} {bs : List Blk} (R : BlksAt w v bs) : Calls Try.prog 15 #[v] w fun e w' => (∃ v', e = .returned (.tuple #[v', .int .i64 (fltP bs 4096)]) ∧ (fltP bs 4096 ≠ 0 → v' = .slice none 0 0) ∧ (fltP bs 4096 = 0 → w'.ownsRow w.heap.size 3 1 v' (zs (ordP bs)).length (ints (zs (ordP bs))))) ∧ Below w.heap.size w w' := by
  have hf := fault_any (w := w) 4096 R
  by_cases h0 : fltP bs 4096 = 0
  · obtain ⟨K, hK, S⟩ := snd_of h0
    have ho := fun (W : World) (h : Below w.heap.size w W) => order_any S (R.below h)
    rw [h0] at hf ⊢
    have HO := hide ho
    obtain ⟨ao, cap, rfl, _⟩ := R
    clear ho h0 hK
    go_enter Try.func15, Try.ntmps15
    go_wp2_with (first
      | (go_at_call 21; (with_reducible refine hf.mono ?_); rintro e w1 ⟨rfl, hb1⟩; have H1 := hide hb1; clear hb1)
      | (go_at_call 25; (with_reducible refine (HO.out w1 H1.out).mono ?_); rintro e w2 ⟨v2, rfl, hown, hb2⟩; have H2 := hide (And.intro hown hb2); clear hown hb2))
    refine bodyPost_ret (by simp [results, Try.results15, go_sem]; try rfl) rfl ?_
    exact ⟨⟨_, rfl, fun h => absurd rfl h, fun _ => row_base H2.out.1 H1.out.size⟩, H1.out.trans (H2.out.2.mono H1.out.size)⟩
  · generalize fltP bs 4096 = z at *
    obtain ⟨ao, cap, rfl, _⟩ := R
    go_enter Try.func15, Try.ntmps15
    go_wp2_with (go_at_call 21; (with_reducible refine hf.mono ?_); rintro e w1 ⟨rfl, hb1⟩; have H1 := hide hb1; clear hb1)
    refine bodyPost_ret (by simp [results, Try.results15, go_sem]; try rfl) rfl ?_
    exact ⟨⟨_, rfl, fun _ => rfl, fun h => absurd h h0⟩, H1.out⟩
end
end Go.Proofs.Ytaejhppfcmeopaa
