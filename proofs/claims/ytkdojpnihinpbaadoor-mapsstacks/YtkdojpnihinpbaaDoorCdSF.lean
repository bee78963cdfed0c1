/- each: F. -/
import Derived.Test.YtkdojpnihinpbaaDoorCdS1
namespace Go.Proofs.YtkdojpnihinpbaaDoor
open Go.RowKit
def EaRF (w : World) (l : List (Fd)) (a : Value) (wr : World) : Prop := ∃ j : Nat, a = .int .i64 j ∧ j ≤ l.length ∧ (l.take j).all sndF = true ∧ Below w.heap.size w wr
section
variable {w : World} {B : Nat}
set_option maxHeartbeats 1000000 in
theorem eachF_any {v : Value} {l : List (Fd)} (R : SlAt 5 (FdP B) B w v l) (hB : B ≤ w.heap.size) :
    Calls Tryd.prog 40 #[v, .int .i64 4096, .func (.func 41) #[] #[]] w fun e w' => e = .returned (.bool (eachB 4096 sndF l)) ∧ Below w.heap.size w w' := by
  obtain ⟨ao, cap, rfl, hlen, hel⟩ := R
  unfold eachB
  by_cases hm : l.length ≤ 4096
  · rw [decide_eq_true hm, Bool.true_and]
    have HEL := hide hel
    have b1 : (l.length : Int) ≤ 4096 := by omega
    have d0 : decide (4096 < (l.length : Int)) = false := by simp; omega
    have HB := hide hB
    clear hel hlen hm hB
    go_enter Tryd.func40, Tryd.ntmps40
    go_wp2
    go_loopw [15] (fun a wr => EaRF w l a wr) (fun a _ => l.length - (intOf a).toNat)
    case atStart => exact ⟨0, rfl, Nat.zero_le _, by simp, Below.refl _ _⟩
    case round =>
      obtain ⟨j, rfl, hj, hall, hb⟩ := hrel
      have HALL := hide hall
      have HBW := hide hb
      clear hall hb
      by_cases hlt : j < l.length
      · obtain ⟨x, hx⟩ : ∃ x, l[j]? = some x := ⟨l[j], by simp [hlt]⟩
        obtain ⟨g, o, cs, hao, hgB, hcs, hP⟩ := HEL.out j x hx
        subst hao
        have hk : ∀ r u, cs[r]? = some u → wr.cell? ⟨g, o + j * 5 + r, none⟩ = some u := fun r u hu => by
          rw [World.cell?_of_block (a := ⟨g, o + j * 5 + r, none⟩) (HBW.out.block g (Nat.lt_of_lt_of_le hgB HB.out))]; exact hcs r u hu
        have hgw : g < wr.heap.size := Nat.lt_of_lt_of_le hgB (Nat.le_trans HB.out HBW.out.size)
        obtain ⟨v1, v2, v3, v4, rfl, _, r1, r2, r3, r4⟩ := hP
        obtain ⟨a1, c1, hv1, _⟩ := id r1
        obtain ⟨a2, c2, hv2, _⟩ := id r2
        obtain ⟨a3, c3, hv3, _⟩ := id r3
        obtain ⟨a4, c4, hv4, _⟩ := id r4
        subst hv1 hv2 hv3 hv4
        have c10 : wr.cell? ⟨g, o + j * 5, none⟩ = some (.int .i64 x.pa) := by have := hk 0 _ rfl; simpa using this
        have c11 : wr.cell? ⟨g, o + j * 5 + 1, none⟩ = some (.slice a1 x.lo.length c1) := by have := hk 1 _ rfl; simpa using this
        have c12 : wr.cell? ⟨g, o + j * 5 + 2, none⟩ = some (.slice a2 x.re.length c2) := by have := hk 2 _ rfl; simpa using this
        have c13 : wr.cell? ⟨g, o + j * 5 + 3, none⟩ = some (.slice a3 x.ar.length c3) := by have := hk 3 _ rfl; simpa using this
        have c14 : wr.cell? ⟨g, o + j * 5 + 4, none⟩ = some (.slice a4 x.co.length c4) := by have := hk 4 _ rfl; simpa using this
        have d1 : decide (j < l.length) = true := by simpa using hlt
        have d2 : decide ((j : Int) < (l.length : Int)) = true := by simp; omega
        have bj : (j : Int) < (l.length : Int) := by omega
        have HX := hide hx
        clear hcs hk hx hgB
        generalize hn : l.length = n at *
        have HNl := hide hn
        clear hn
        obtain ⟨W3, hW3⟩ : ∃ W3, wr.alloc (.cells #[.int .i64 x.pa, .slice a1 x.lo.length c1, .slice a2 x.re.length c2, .slice a3 x.ar.length c3, .slice a4 x.co.length c4] 50) = W3 := ⟨_, rfl⟩
        have HKP := hide (show ∀ i, i < B → W3.heap[i]? = w.heap[i]? from fun i hi => (hW3 ▸ HBW.out.alloc HBW.out.size _ : Below w.heap.size w W3).block i (Nat.lt_of_lt_of_le hi HB.out))
        have HW3 := hide (show Below w.heap.size w W3 from hW3 ▸ HBW.out.alloc HBW.out.size _)
        have wc0 : W3.cell? ⟨wr.heap.size, 0, none⟩ = some (.int .i64 x.pa) := hW3 ▸ cell_of (heap_new _ _ rfl) rfl
        have wc1 : W3.cell? ⟨wr.heap.size, 1, none⟩ = some (.slice a1 x.lo.length c1) := hW3 ▸ cell_of (heap_new _ _ rfl) rfl
        have wc2 : W3.cell? ⟨wr.heap.size, 2, none⟩ = some (.slice a2 x.re.length c2) := hW3 ▸ cell_of (heap_new _ _ rfl) rfl
        have wc3 : W3.cell? ⟨wr.heap.size, 3, none⟩ = some (.slice a3 x.ar.length c3) := hW3 ▸ cell_of (heap_new _ _ rfl) rfl
        have wc4 : W3.cell? ⟨wr.heap.size, 4, none⟩ = some (.slice a4 x.co.length c4) := hW3 ▸ cell_of (heap_new _ _ rfl) rfl
        have HIT := hide (sndF_any x (ins_keep (Nat.le_refl _) HKP.out r4) (Nat.le_trans HB.out HW3.out.size) a1 a2 a3 c1 c2 c3)
        generalize hs : sndF x = d at *
        have HSx := hide hs
        clear hs
        go_wp2_with fail
        refine HIT.out.mono ?_
        rintro e w3 ⟨rfl, hb3⟩
        have HB3 := hide (HW3.out.trans (hb3.mono HW3.out.size))
        clear hb3 HIT hW3
        cases d with
        | true =>
          go_wp2
          go_roundw
          case rel => exact ⟨j + 1, by go_num, by rw [HNl.out]; exact hlt, all_next HX.out HALL.out HSx.out, HB3.out⟩
          case measure => rw [intOf_int]; simp [intOf]; omega
        | false =>
          go_wp2
          go_ret
          refine ⟨?_, HB3.out⟩
          rw [all_bad HX.out HSx.out]
          rfl
      · obtain rfl : j = l.length := by omega
        have d1 : decide (l.length < l.length) = false := by simp
        have d2 : decide ((l.length : Int) < (l.length : Int)) = false := by simp
        have HA2 := hide (show l.all sndF = true by have := HALL.out; rwa [List.take_length] at this)
        generalize hn : l.length = n at *
        clear hn
        go_wp2
        go_ret
        refine ⟨?_, HBW.out⟩
        rw [HA2.out]
        rfl
  · rw [decide_eq_false hm, Bool.false_and]
    have d0 : decide (4096 < (l.length : Int)) = true := by simp; omega
    clear hel hlen hm hB
    generalize l.length = n at *
    go_enter Tryd.func40, Tryd.ntmps40
    go_wp2
    go_ret
    exact ⟨rfl, Below.refl _ _⟩
end
end Go.Proofs.YtkdojpnihinpbaaDoor
