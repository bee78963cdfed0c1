/- The law LiveSolves. -/
import Derived.Test.YtaejhppfcmeopaaLwH
import Derived.Test.YtaejhppfcmeopaaLwJ
namespace Go.Proofs.Ytaejhppfcmeopaa
open Go.RowKit
/-- What was returned lies there still. -/
def LsQ (w W : World) (v1 v2 : Value) (bs : List Blk) (K : Nat) : Prop := LsAt W v1 (resIn bs K) ∧ LsAt W v2 (resOut bs K) ∧ Below w.heap.size w W
section
variable {w W W' : World}
theorem LsQ.next {v1 v2 : Value} {bs : List Blk} {K : Nat} (h : LsQ w W v1 v2 bs K) (hb : Below W.heap.size W W') : LsQ w W' v1 v2 bs K := ⟨h.1.below hb, h.2.1.below hb, h.2.2.trans (hb.mono h.2.2.size)⟩
theorem LsQ.i {v1 v2 : Value} {bs : List Blk} {K : Nat} (h : LsQ w W v1 v2 bs K) : LsAt W v1 (resIn bs K) := h.1
theorem LsQ.o {v1 v2 : Value} {bs : List Blk} {K : Nat} (h : LsQ w W v1 v2 bs K) : LsAt W v2 (resOut bs K) := h.2.1
theorem LsQ.b {v1 v2 : Value} {bs : List Blk} {K : Nat} (h : LsQ w W v1 v2 bs K) : Below w.heap.size w W := h.2.2
theorem res_in_small {bs : List Blk} {K : Nat} (h : K ≤ 4096) : ∀ l ∈ resIn bs K, l.length ≤ 100000 := fun l hl => by
  unfold resIn at hl
  rw [List.mem_map] at hl
  obtain ⟨i, _, rfl⟩ := hl
  have := inL_len bs K i
  rw [zs_len]; omega
theorem res_out_small {bs : List Blk} {K : Nat} (h : K ≤ 4096) : ∀ l ∈ resOut bs K, l.length ≤ 100000 := fun l hl => by
  unfold resOut at hl
  rw [List.mem_map] at hl
  obtain ⟨i, _, rfl⟩ := hl
  have := outL_len bs K i
  rw [zs_len]; omega
set_option maxRecDepth 100000 in
set_option maxHeartbeats 2000000 in
theorem solves_law {v : Value} {bs : List Blk} (k : Int) (R : BlksAt w v bs) : Calls Try.prog 3 #[v, .int .i64 k] w fun e w' => e = .returned (.bool true) ∧ Below w.heap.size w w' := by
  have hs := solve_any k R
  have hc := fun (W : World) (h : Below w.heap.size w W) => rcheck_any k (R.below h)
  have HA := hide (fun W : World => awake_any W)
  by_cases h0 : fltP bs k = 0
  · obtain ⟨K, rfl, S⟩ := snd_of h0
    have hl := S.l
    have hK := S.v
    have HSM := hide (fun (W : World) (h : Below w.heap.size w W) => small_any (R.below h) hl)
    have HRS := hide (fun (W : World) (h : Below w.heap.size w W) => rsolve_any S (R.below h))
    rw [h0] at hs
    simp only [h0] at hc
    have HS := hide S
    have HC := hide hc
    have HL1 := hide (show (resIn bs K).length ≤ 100000 by rw [res_in_len]; omega)
    have HL2 := hide (show (resOut bs K).length ≤ 100000 by rw [res_out_len]; omega)
    have HL3 := hide (res_in_small (bs := bs) (K := K) (by omega))
    have HL4 := hide (res_out_small (bs := bs) (K := K) (by omega))
    obtain ⟨ao, cap, rfl, _⟩ := R
    clear S hc h0
    go_enter Try.func3, Try.ntmps3
    go_wp2_with (first
      | (have kk := st6; clear kk; go_at_call 14; (with_reducible refine (samel_any H6.out.1.o H6.out.2.2 HL2.out HL4.out).mono ?_); rintro e w7 ⟨rfl, hb7⟩)
      | (have kk := st5; clear kk; go_at_call 14; (with_reducible refine (samel_any H5.out.1.i H5.out.2.1 HL1.out HL3.out).mono ?_); rintro e w6 ⟨rfl, hb6⟩; have H6 := hide (And.intro (H5.out.1.next hb6) (And.intro (H5.out.2.1.below hb6) (H5.out.2.2.below hb6))); have st6 : True := trivial)
      | (have kk := st4; clear kk; go_at_call 13; (with_reducible refine (HRS.out w4 H4.out.b).mono ?_); rintro e w5 ⟨⟨v3, v4, rfl, q3, q4⟩, hb5⟩; have H5 := hide (And.intro (H4.out.next hb5) (And.intro q3 q4)); clear q3 q4 hb5; have st5 : True := trivial)
      | (have kk := st3; clear kk; go_at_call 12; (with_reducible refine (HSM.out w3 H3.out.b).mono ?_); rintro e w4 ⟨⟨r, rfl, _⟩, hb4⟩; have H4 := hide (H3.out.next hb4); clear hb4; have st4 : True := trivial; cases r)
      | (have kk := st2; clear kk; go_at_call 11; refine (HA.out _).mono ?_; rintro e w3 ⟨rfl, hb3⟩; have H3 := hide (H1.out.next hb3); clear hb3; have st3 : True := trivial)
      | (have kk := st1; clear kk; go_at_call 10; (with_reducible refine (HC.out w1 H1.out.b).mono ?_); rintro e w2 ⟨rfl, hw2⟩; rw [hw2]; clear hw2 w2; have st2 : True := trivial)
      | (go_at_call 9; (with_reducible refine hs.mono ?_); rintro e w1 ⟨⟨v1, v2, rfl, hO⟩, hb1⟩; have H1 : Hid (LsQ w w1 v1 v2 bs K) := hide ⟨(hO.2 K rfl HS.out).1, (hO.2 K rfl HS.out).2, hb1⟩; clear hO hb1; have st1 : True := trivial))
    · go_ret
      exact ⟨rfl, H4.out.b⟩
    · go_ret
      exact ⟨rfl, (H6.out.1.next hb7).b⟩
  · have hs2 : Calls Try.prog 9 #[v, .int .i64 k] w fun e w' => e = .returned (.tuple #[.slice none 0 0, .slice none 0 0, .int .i64 (fltP bs k)]) ∧ Below w.heap.size w w' := hs.mono (fun e w1 ⟨⟨v1, v2, he, hO⟩, hb⟩ => by
      obtain ⟨rfl, rfl⟩ := hO.1 h0
      exact ⟨he, hb⟩)
    obtain ⟨z, hz⟩ : ∃ z, fltP bs k = z := ⟨_, rfl⟩
    rw [hz] at hs2 h0
    simp only [hz] at hc
    have HC := hide hc
    obtain ⟨ao, cap, rfl, _⟩ := R
    clear hs hc hz
    go_enter Try.func3, Try.ntmps3
    go_wp2_with (first
      | (have kk := st2; clear kk; go_at_call 11; refine (HA.out _).mono ?_; rintro e w3 ⟨rfl, hb3⟩)
      | (have kk := st1; clear kk; go_at_call 10; (with_reducible refine (HC.out w1 HB1.out).mono ?_); rintro e w2 ⟨rfl, hw2⟩; rw [hw2]; clear hw2 w2; have st2 : True := trivial)
      | (go_at_call 9; (with_reducible refine hs2.mono ?_); rintro e w1 ⟨rfl, hb1⟩; have HB1 := hide hb1; clear hb1; have st1 : True := trivial))
    go_ret
    exact ⟨rfl, HB1.out.trans (hb3.mono HB1.out.size)⟩
end
end Go.Proofs.Ytaejhppfcmeopaa
