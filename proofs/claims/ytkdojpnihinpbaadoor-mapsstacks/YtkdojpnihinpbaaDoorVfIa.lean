/- slices.Backward, and the pile's down: the iterators. -/
import Derived.Test.YtkdojpnihinpbaaDoorVfI
import Derived.Test.YtkdojpnihinpbaaDoorVfPa
namespace Go.Proofs.YtkdojpnihinpbaaDoor
open Go.RowKit Go.Shelf
attribute [local go_sem] Oper.semAt_some
section
variable {w : World}
theorem backward_in {F : Fence} (hF : F.fn 59) (hro : F.round = none) {m : Nat} (a : Option Addr) (n c : Nat) : CallsIn F m Tryd.prog 59 #[.slice a n c] w fun e w' => e = .returned (.func (.func 75) #[] #[.pointer (some ⟨w.heap.size, 0, none⟩)]) ∧ w' = w.alloc (.cells #[.slice a n c] 37) := by
  refine callsIn_of_wp Tryd.func59 rfl hF ?_ hro
  simp only [Tryd.ntmps59, List.size_toArray, List.length_cons, List.length_nil, Nat.reduceAdd, Nat.reduceSub, Array.replicate_succ, Array.replicate_zero, List.push_toArray, List.append_toArray, List.nil_append, List.cons_append]
  gi_wp2
  go_ret
  exact ⟨rfl, rfl⟩
theorem down_in {F : Fence} (hF : F.fn 35) (hro : F.round = none) {m : Nat} (b n : Nat) : CallsIn F m Tryd.prog 35 #[pp b, .int .i64 n] w fun e w' => e = .returned (.func (.func 58) #[] #[.pointer (some ⟨w.heap.size + 1, 0, none⟩), .pointer (some ⟨w.heap.size, 0, none⟩)]) ∧ w' = (w.alloc (.cells #[pp b] 64)).alloc (.cells #[.int .i64 n] 3) := by
  refine callsIn_of_wp Tryd.func35 rfl hF ?_ hro
  simp only [Tryd.ntmps35, List.size_toArray, List.length_cons, List.length_nil, Nat.reduceAdd, Nat.reduceSub, Array.replicate_succ, Array.replicate_zero, List.push_toArray, List.append_toArray, List.nil_append, List.cons_append]
  gi_wp2
  go_ret
  exact ⟨rfl, rfl⟩
/-- What a round may come to. -/
def YR (J : World → Prop) (Jx : World → Prop) (Jp : List PanicEntry → World → Prop) (e : Ending) (W : World) : Prop := (e = .returned (.bool true) ∧ J W) ∨ (e = .returned (.bool false) ∧ Jx W) ∨ ∃ ch, e = .panicked ch ∧ Jp ch W
def BkR (J : Nat → World → Prop) (N : Nat) (i : Value) (wr : World) : Prop := ∃ k : Nat, i = .int .i64 ((N : Int) - 1 - (k : Int)) ∧ k ≤ N ∧ J k wr
set_option maxHeartbeats 1000000 in
theorem back1_in {F : Fence} (hF : F.fn 75) (hro : F.round = none) (hdp : F.depth = none) {n : Nat} {J : Nat → World → Prop} {Jx : World → Prop} {Jp : List PanicEntry → World → Prop} {l c : Nat} {a : Option Addr} {cap : Nat} {ks : List Int} (hl : ks.length ≤ 4000000000000)
    (hR : ∀ k W, J k W → W.cell? ⟨c, 0, none⟩ = some (.slice a ks.length cap) ∧ ∀ j x, ks[j]? = some x → ∃ g o, a = some ⟨g, o, none⟩ ∧ W.cell? ⟨g, o + j, none⟩ = some (.int .i64 x))
    (hY : ∀ k W, J k W → k < ks.length → ∀ x, ks[ks.length - 1 - k]? = some x → YieldAt F (n - 1) Tryd.prog l #[.int .i64 ((ks.length - 1 - k : Nat) : Int), .int .i64 x] W (YR (J (k + 1)) Jx Jp))
    (W : World) (h0 : J 0 W) :
    CallsIn F n Tryd.prog 75 #[.func (.yield l) #[] #[], .pointer (some ⟨c, 0, none⟩)] W fun e W' => (∃ v, e = .returned v ∧ (J ks.length W' ∨ Jx W')) ∨ ∃ ch, e = .panicked ch ∧ Jp ch W' := by
  have HR := hide hR
  have HY := hide hY
  obtain ⟨c0, _⟩ := hR 0 W h0
  have hlb : (ks.length : Int) ≤ 4000000000000 := by omega
  have HL := hide hl
  clear hR hY hl
  refine callsIn_of_wp Tryd.func75 rfl hF ?_ hro
  simp only [Tryd.ntmps75, List.size_toArray, List.length_cons, List.length_nil, Nat.reduceAdd, Nat.reduceSub, Array.replicate_succ, Array.replicate_zero, List.push_toArray, List.append_toArray, List.nil_append, List.cons_append]
  gi_wp2
  gi_loopw [3] (fun i wr => BkR J ks.length i wr) (fun i _ => (intOf i + 1).toNat)
  case atStart => exact ⟨0, by simp, Nat.zero_le _, h0⟩
  case round =>
    obtain ⟨k, rfl, hk, hJ⟩ := hrel
    have HJ := hide hJ
    obtain ⟨c0', hcs⟩ := HR.out k wr hJ
    by_cases hlt : k < ks.length
    · obtain ⟨t, ht⟩ : ∃ t, ks.length - 1 - k = t := ⟨_, rfl⟩
      have htl : t < ks.length := by omega
      obtain ⟨x, hx⟩ : ∃ x, ks[t]? = some x := ⟨ks[t], by simp [htl]⟩
      obtain ⟨g, o, rfl, hcx⟩ := hcs t x hx
      obtain ⟨fn, tmps, assign, body, hy, hRd⟩ := HY.out k wr hJ hlt x (by rw [ht]; exact hx)
      rw [ht] at hy
      have HRd := hide hRd
      have hti : (ks.length : Int) - 1 - (k : Int) = (t : Int) := by omega
      have ht1 : (t : Int) < (ks.length : Int) := by omega
      have ht2 : (0 : Int) ≤ (t : Int) := by omega
      have HK := hide hlt
      have HT := hide (show ((ks.length : Int) - 1 - ((k + 1 : Nat) : Int)) = (t : Int) - 1 by omega)
      rw [hti]
      clear hcs hRd hJ hx hlt hk ht c0 hti
      generalize hn : ks.length = N at *
      have HN := hide hn
      clear hn
      gi_wp2
      refine HRd.out.mono ?_
      rintro e W3 (⟨rfl, hJ3⟩ | ⟨rfl, hJx3⟩ | ⟨ch, rfl, hJp3⟩)
      · have HJ3 := hide hJ3
        clear hJ3
        gi_wp2
        go_roundw
        case rel => exact ⟨k + 1, by rw [HT.out], HK.out, HJ3.out⟩
        case measure => rw [intOf_int, intOf_int]; omega
      · have HJ3 := hide hJx3
        clear hJx3
        gi_wp2
        refine bodyPost_ret (results_none rfl _ _ _) rfl ?_
        exact .inl ⟨_, rfl, .inr HJ3.out⟩
      · exact ⟨rfl, .inr ⟨ch, rfl, hJp3⟩⟩
    · obtain rfl : k = ks.length := by omega
      have hti : (ks.length : Int) - 1 - (ks.length : Int) = -1 := by omega
      rw [hti]
      clear hcs hJ hlt hk c0 hti
      generalize hn : ks.length = N at *
      gi_wp2
      go_end0
      exact .inl ⟨_, rfl, .inl (hn ▸ HJ.out)⟩
end
end Go.Proofs.YtkdojpnihinpbaaDoor
