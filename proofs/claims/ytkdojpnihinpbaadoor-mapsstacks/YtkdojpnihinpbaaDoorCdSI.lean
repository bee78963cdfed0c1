/- each: I. -/
import Derived.Test.YtkdojpnihinpbaaDoorCdS0
namespace Go.Proofs.YtkdojpnihinpbaaDoor
open Go.RowKit
def EaRI (w : World) (l : List (In3)) (a : Value) (wr : World) : Prop := ∃ j : Nat, a = .int .i64 j ∧ j ≤ l.length ∧ (l.take j).all sndI = true ∧ Below w.heap.size w wr
section
variable {w : World} {B : Nat}
set_option maxHeartbeats 1000000 in
theorem eachI_any {v : Value} {l : List (In3)} (R : SlAt 3 InsP B w v l) (hB : B ≤ w.heap.size) :
    Calls Tryd.prog 64 #[v, .int .i64 65536, .func (.func 65) #[] #[]] w fun e w' => e = .returned (.bool (eachB 65536 sndI l)) ∧ Below w.heap.size w w' := by
  obtain ⟨ao, cap, rfl, hlen, hel⟩ := R
  unfold eachB
  by_cases hm : l.length ≤ 65536
  · rw [decide_eq_true hm, Bool.true_and]
    have HEL := hide hel
    have b1 : (l.length : Int) ≤ 65536 := by omega
    have d0 : decide (65536 < (l.length : Int)) = false := by simp; omega
    have HB := hide hB
    clear hel hlen hm hB
    go_enter Tryd.func64, Tryd.ntmps64
    go_wp2
    go_loopw [15] (fun a wr => EaRI w l a wr) (fun a _ => l.length - (intOf a).toNat)
    case atStart => exact ⟨0, rfl, Nat.zero_le _, by simp, Below.refl _ _⟩
    case round =>
      obtain ⟨j, rfl, hj, hall, hb⟩ := hrel
      have HALL := hide hall
      have HBW := hide hb
      clear hall hb
      by_cases hlt : j < l.length
      · obtain ⟨x, hx⟩ : ∃ x, l[j]? = some x := ⟨l[j], by simp [hlt]⟩
        obtain ⟨g, o, cs, hao, hgB, hcs, hP⟩ := HEL.out j x hx
        subst hao
        have hk : ∀ r u, cs[r]? = some u → wr.cell? ⟨g, o + j * 3 + r, none⟩ = some u := fun r u hu => by
          rw [World.cell?_of_block (a := ⟨g, o + j * 3 + r, none⟩) (HBW.out.block g (Nat.lt_of_lt_of_le hgB HB.out))]; exact hcs r u hu
        have hgw : g < wr.heap.size := Nat.lt_of_lt_of_le hgB (Nat.le_trans HB.out HBW.out.size)
        obtain ⟨rfl, _⟩ := hP
        have c10 : wr.cell? ⟨g, o + j * 3, none⟩ = some (.int .i64 x.o) := by have := hk 0 _ rfl; simpa using this
        have c11 : wr.cell? ⟨g, o + j * 3 + 1, none⟩ = some (.int .i64 x.a) := by have := hk 1 _ rfl; simpa using this
        have c12 : wr.cell? ⟨g, o + j * 3 + 2, none⟩ = some (.int .i64 x.b) := by have := hk 2 _ rfl; simpa using this
        have d1 : decide (j < l.length) = true := by simpa using hlt
        have d2 : decide ((j : Int) < (l.length : Int)) = true := by simp; omega
        have bj : (j : Int) < (l.length : Int) := by omega
        have HX := hide hx
        clear hcs hk hx hgB
        generalize hn : l.length = n at *
        have HNl := hide hn
        clear hn
        obtain ⟨W3, hW3⟩ : ∃ W3, wr.alloc (.cells #[.int .i64 x.o, .int .i64 x.a, .int .i64 x.b] 47) = W3 := ⟨_, rfl⟩
        have HW3 := hide (show Below w.heap.size w W3 from hW3 ▸ HBW.out.alloc HBW.out.size _)
        have wc0 : W3.cell? ⟨wr.heap.size, 0, none⟩ = some (.int .i64 x.o) := hW3 ▸ cell_of (heap_new _ _ rfl) rfl
        have wc1 : W3.cell? ⟨wr.heap.size, 1, none⟩ = some (.int .i64 x.a) := hW3 ▸ cell_of (heap_new _ _ rfl) rfl
        have wc2 : W3.cell? ⟨wr.heap.size, 2, none⟩ = some (.int .i64 x.b) := hW3 ▸ cell_of (heap_new _ _ rfl) rfl
        have HIT := hide (sndI_any x W3)
        generalize hs : sndI x = d at *
        have HSx := hide hs
        clear hs
        go_wp2_with fail
        refine HIT.out.mono ?_
        rintro e w3 ⟨rfl, hb3⟩
        have HB3 := hide (HW3.out.trans (hb3.mono HW3.out.size))
        clear hb3 HIT hW3
        cases d with
        | true =>
          go_wp2
          go_roundw
          case rel => exact ⟨j + 1, by go_num, by rw [HNl.out]; exact hlt, all_next HX.out HALL.out HSx.out, HB3.out⟩
          case measure => rw [intOf_int]; simp [intOf]; omega
        | false =>
          go_wp2
          go_ret
          refine ⟨?_, HB3.out⟩
          rw [all_bad HX.out HSx.out]
          rfl
      · obtain rfl : j = l.length := by omega
        have d1 : decide (l.length < l.length) = false := by simp
        have d2 : decide ((l.length : Int) < (l.length : Int)) = false := by simp
        have HA2 := hide (show l.all sndI = true by have := HALL.out; rwa [List.take_length] at this)
        generalize hn : l.length = n at *
        clear hn
        go_wp2
        go_ret
        refine ⟨?_, HBW.out⟩
        rw [HA2.out]
        rfl
  · rw [decide_eq_false hm, Bool.false_and]
    have d0 : decide (65536 < (l.length : Int)) = true := by simp; omega
    clear hel hlen hm hB
    generalize l.length = n at *
    go_enter Tryd.func64, Tryd.ntmps64
    go_wp2
    go_ret
    exact ⟨rfl, Below.refl _ _⟩
end
end Go.Proofs.YtkdojpnihinpbaaDoor
