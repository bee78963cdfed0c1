/- The law LiveOrders. -/
import Derived.Test.YtaejhppfcmeopaaLxT
import Derived.Test.YtaejhppfcmeopaaLxD
import Derived.Test.YtaejhppfcmeopaaLwQ
import Derived.Test.YtaejhppfcmeopaaLvV
import Derived.Test.YtaejhppfcmeopaaLvY
namespace Go.Proofs.Ytaejhppfcmeopaa
open Go.RowKit
section
variable {w : World}
theorem rwithout_nil {v : Value} (R : BlksAt w v []) (g : Int) : Calls Try.prog 28 #[v, .int .i64 g] w fun e w' => e = .returned (.slice (some ⟨w.heap.size, 0, none⟩) 0 0) ∧ Below w.heap.size w w' := by
  obtain ⟨ao, cap, rfl, _⟩ := R
  rw [List.length_nil]
  have hmk : ∀ W : World, (Instr.makeSlice 47 (.int .i64 0) (.int .i64 0)).run Try.prog W = .ok (.slice (some ⟨W.heap.size, 0, none⟩) 0 0) (W.alloc (.cells (reps 0 (.bool false)) 4)) := fun W => run_bools W 0 (by omega)
  go_enter Try.func28, Try.ntmps28
  go_wp2
  go_ret
  exact ⟨rfl, (Below.refl _ _).alloc (Nat.le_refl _) _⟩
set_option maxRecDepth 20000 in
set_option maxHeartbeats 4000000 in
theorem rdoms_zero {v : Value} (R : BlksAt w v []) : Calls Try.prog 19 #[v] w fun e w' => (∃ v', e = .returned v' ∧ Hid (IntsAt w' v' (dmP []))) ∧ Below w.heap.size w w' := by
  have hw1 := rwithout_nil R (-1)
  obtain ⟨ao, cap, rfl, _⟩ := R
  rw [List.length_nil] at hw1 ⊢
  go_enter Try.func19, Try.ntmps19
  go_wp2_with (go_at_call 28; (with_reducible refine hw1.mono ?_); rintro e w1 ⟨rfl, hb1⟩; have H1 := hide hb1; clear hb1 hw1)
  refine wp_loop_rounds 1 ?_
  rw [rounds_succ]
  go_wp2
  refine wp_loop_rounds 1 ?_
  rw [rounds_succ]
  go_wp2
  go_ret
  exact ⟨⟨_, rfl, IntsAt.nil _ _ _⟩, H1.out.trans ((((Below.refl w1.heap.size w1).alloc (Nat.le_refl _) _).alloc (by simp) _).mono H1.out.size)⟩
theorem rdoms_any {v : Value} {bs : List Blk} {K : Nat} (S : Snd bs K) (R : BlksAt w v bs) : Calls Try.prog 19 #[v] w fun e w' => (∃ v', e = .returned v' ∧ Hid (IntsAt w' v' (dmP bs))) ∧ Below w.heap.size w w' := by
  by_cases h0 : bs = []
  · subst h0; exact rdoms_zero R
  · exact rdoms_pos S R h0
theorem zo_len {bs : List Blk} {K : Nat} (S : Snd bs K) : (zs (ordP bs)).length ≤ 512 := by
  rw [zs_len]
  by_cases h0 : bs = []
  · subst h0; rw [ordP_nil]; simp
  · exact ord_len S h0
theorem rorder_at {v : Value} {bs : List Blk} {K : Nat} (S : Snd bs K) (R : BlksAt w v bs) : Calls Try.prog 18 #[v] w fun e w' => (∃ v', e = .returned v' ∧ Hid (IntsAt w' v' (zs (ordP bs)))) ∧ Below w.heap.size w w' :=
  (rorder_any S R).mono fun e w' ⟨v', h1, h2, h3⟩ => ⟨⟨v', h1, IntsAt.of_row h2 (by have := zo_len S; omega)⟩, h3⟩
/-- What was returned lies there still. -/
structure Oq (w W : World) (v1 v2 : Value) (l1 l2 : List Int) : Prop where
  o : IntsAt W v1 l1
  d : IntsAt W v2 l2
  b : Below w.heap.size w W
theorem Oq.next {W W' : World} {v1 v2 : Value} {l1 l2 : List Int} (h : Oq w W v1 v2 l1 l2) (hb : Below W.heap.size W W') : Oq w W' v1 v2 l1 l2 := ⟨h.o.below hb, h.d.below hb, h.b.trans (hb.mono h.b.size)⟩
set_option maxRecDepth 100000 in
set_option maxHeartbeats 4000000 in
theorem orders_law {v : Value} {bs : List Blk} (R : BlksAt w v bs) : Calls Try.prog 4 #[v] w fun e w' => e = .returned (.bool true) ∧ Below w.heap.size w w' := by
  have ho := orderp_any R
  have hd := fun (W : World) (h : Below w.heap.size w W) => domsp_any (R.below h)
  have hc := fun (W : World) (h : Below w.heap.size w W) => rcheck_any 4096 (R.below h)
  have HA := hide (fun W : World => awake_any W)
  by_cases h0 : fltP bs 4096 = 0
  · obtain ⟨K, hK, S⟩ := snd_of h0
    have hl := S.l
    have HSM := hide (fun (W : World) (h : Below w.heap.size w W) => small_any (R.below h) hl)
    have HRO := hide (fun (W : World) (h : Below w.heap.size w W) => rorder_at S (R.below h))
    have HRD := hide (fun (W : World) (h : Below w.heap.size w W) => rdoms_any S (R.below h))
    have HL1 := hide (show (zs (ordP bs)).length ≤ 100000 by have := zo_len S; omega)
    have HL2 := hide (show (dmP bs).length ≤ 100000 by rw [dmP_len]; omega)
    have HL3 := hide (show (zs (ordP bs)).length ≤ 9223372036854775807 by have := zo_len S; omega)
    have HQ : dmQ bs = dmP bs := if_pos h0
    have ho2 : Calls Try.prog 15 #[v] w fun e w' => (∃ v', e = .returned (.tuple #[v', .int .i64 0]) ∧ Hid (IntsAt w' v' (zs (ordP bs)))) ∧ Below w.heap.size w w' :=
      ho.mono fun e w' ⟨⟨v', h1, _, h2⟩, h3⟩ => ⟨⟨v', by rw [h0] at h1; exact h1, IntsAt.of_row (h2 h0) HL3.out⟩, h3⟩
    simp only [h0, HQ] at hc hd
    have HC := hide hc
    have HD := hide hd
    obtain ⟨ao, cap, rfl, _⟩ := R
    clear S hc hd ho h0 hK HQ
    go_enter Try.func4, Try.ntmps4
    go_wp2_with (first
      | (have kk := st8; clear kk; go_at_call 17; (with_reducible refine (samei_any H8.out.1.d H8.out.2 HL2.out).mono ?_); rintro e w9 ⟨rfl, hb9⟩)
      | (have kk := st7; clear kk; go_at_call 19; (with_reducible refine (HRD.out w7 H7.out.b).mono ?_); rintro e w8 ⟨⟨v8, rfl, hv8⟩, hb8⟩; have H8 := hide (And.intro (H7.out.next hb8) hv8.out); clear hb8 hv8; have st8 : True := trivial)
      | (have kk := st6; clear kk; go_at_call 17; (with_reducible refine (samei_any H6.out.1.o H6.out.2 HL1.out).mono ?_); rintro e w7 ⟨rfl, hb7⟩; have H7 := hide (H6.out.1.next hb7); clear hb7; have st7 : True := trivial)
      | (have kk := st5; clear kk; go_at_call 18; (with_reducible refine (HRO.out w5 H5.out.b).mono ?_); rintro e w6 ⟨⟨v6, rfl, hv6⟩, hb6⟩; have H6 := hide (And.intro (H5.out.next hb6) hv6.out); clear hb6 hv6; have st6 : True := trivial)
      | (have kk := st4; clear kk; go_at_call 12; (with_reducible refine (HSM.out w4 H4.out.b).mono ?_); rintro e w5 ⟨⟨r, rfl, _⟩, hb5⟩; have H5 := hide (H4.out.next hb5); clear hb5; have st5 : True := trivial; cases r)
      | (have kk := st3; clear kk; go_at_call 11; refine (HA.out _).mono ?_; rintro e w4 ⟨rfl, hb4⟩; have H4 := hide (H2.out.next hb4); clear hb4; have st4 : True := trivial)
      | (have kk := st2; clear kk; go_at_call 10; (with_reducible refine (HC.out w2 H2.out.b).mono ?_); rintro e w3 ⟨rfl, hw3⟩; rw [hw3]; clear hw3 w3; have st3 : True := trivial)
      | (have kk := st1; clear kk; go_at_call 16; (with_reducible refine (HD.out w1 H1.out.2).mono ?_); rintro e w2 ⟨⟨v2, rfl, hv2⟩, hb2⟩; have H2 : Hid (Oq w w2 v1 v2 (zs (ordP bs)) (dmP bs)) := hide ⟨H1.out.1.below hb2, hv2.out, H1.out.2.trans (hb2.mono H1.out.2.size)⟩; clear hb2 hv2; have st2 : True := trivial)
      | (go_at_call 15; (with_reducible refine ho2.mono ?_); rintro e w1 ⟨⟨v1, rfl, hv1⟩, hb1⟩; have H1 := hide (And.intro hv1.out hb1); clear hb1 hv1; have st1 : True := trivial))
    · go_ret
      exact ⟨rfl, H5.out.b⟩
    · go_ret
      exact ⟨rfl, (H8.out.1.next hb9).b⟩
  · have HQ : dmQ bs = [] := if_neg h0
    obtain ⟨z, hz⟩ : ∃ z, fltP bs 4096 = z := ⟨_, rfl⟩
    have ho2 : Calls Try.prog 15 #[v] w fun e w' => e = .returned (.tuple #[.slice none 0 0, .int .i64 z]) ∧ Below w.heap.size w w' :=
      ho.mono fun e w' ⟨⟨v', h1, h2, _⟩, h3⟩ => ⟨by rw [h1, h2 h0, hz], h3⟩
    simp only [hz, HQ] at hc hd
    rw [hz] at h0
    have HC := hide hc
    have HD := hide hd
    obtain ⟨ao, cap, rfl, _⟩ := R
    clear hc hd ho hz HQ
    go_enter Try.func4, Try.ntmps4
    go_wp2_with (first
      | (have kk := st3; clear kk; go_at_call 11; refine (HA.out _).mono ?_; rintro e w4 ⟨rfl, hb4⟩)
      | (have kk := st2; clear kk; go_at_call 10; (with_reducible refine (HC.out w2 H2.out).mono ?_); rintro e w3 ⟨rfl, hw3⟩; rw [hw3]; clear hw3 w3; have st3 : True := trivial)
      | (have kk := st1; clear kk; go_at_call 16; (with_reducible refine (HD.out w1 H1.out).mono ?_); rintro e w2 ⟨⟨v2, rfl, hv2⟩, hb2⟩
         obtain ⟨a2, c2, e2⟩ := hv2.out.slice
         rw [List.length_nil] at e2
         subst e2
         have H2 := hide (H1.out.trans (hb2.mono H1.out.size)); clear hb2 hv2; have st2 : True := trivial)
      | (go_at_call 15; (with_reducible refine ho2.mono ?_); rintro e w1 ⟨rfl, hb1⟩; have H1 := hide hb1; clear hb1; have st1 : True := trivial))
    go_ret
    exact ⟨rfl, H2.out.trans (hb4.mono H2.out.size)⟩
end
end Go.Proofs.Ytaejhppfcmeopaa
