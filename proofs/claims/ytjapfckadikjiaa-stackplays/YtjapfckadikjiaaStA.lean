/- New, the place of an address, Get and Set. -/
import Derived.Test.YtjapfckadikjiaaStW
import Derived.Carry
namespace Go.Proofs.Ytjapfckadikjiaa
open Go.RowKit

def allowB (n : Int) : Bool := decide (1 ≤ n ∧ n ≤ 1099511627776)
theorem allowed_any (n : Int) (w : World) : Calls Try.prog 25 #[.int .i64 n] w fun e w' => e = .returned (.bool (allowB n)) ∧ w' = w := by
  by_cases h1 : 1 ≤ n
  · by_cases h2 : n ≤ 1099511627776
    · have e1 : decide (1 ≤ n) = true := by simpa using h1
      have e2 : decide (n ≤ 1099511627776) = true := by simpa using h2
      have HE := hide (show allowB n = true by simp [allowB, h1, h2])
      rw [HE.out]
      go_enter Try.func25, Try.ntmps25
      go_wp2
      go_ret
      exact ⟨rfl, rfl⟩
    · have e1 : decide (1 ≤ n) = true := by simpa using h1
      have e2 : decide (n ≤ 1099511627776) = false := by simpa using h2
      have HE := hide (show allowB n = false by simp [allowB, h2])
      rw [HE.out]
      go_enter Try.func25, Try.ntmps25
      go_wp2
      go_ret
      exact ⟨rfl, rfl⟩
  · have e1 : decide (1 ≤ n) = false := by simpa using h1
    have HE := hide (show allowB n = false by simp [allowB, h1])
    rw [HE.out]
    go_enter Try.func25, Try.ntmps25
    go_wp2
    go_ret
    exact ⟨rfl, rfl⟩
def newB (b m : Int) : Bool := allowB b && decide (0 ≤ m ∧ m ≤ 65536)
theorem new_err (b m : Int) (w : World) (h : newB b m = false) : Calls Try.prog 7 #[.int .i64 b, .int .i64 m] w fun e w' => e = .returned (.tuple #[.pointer none, .int .i64 1]) ∧ w' = w := by
  have ha := allowed_any b w
  cases hb : allowB b with
  | false =>
    rw [hb] at ha
    clear h
    go_enter Try.func7, Try.ntmps7
    go_wp2_with fail
    refine ha.mono ?_
    rintro e w1 ⟨rfl, rfl⟩
    go_wp2
    go_ret2
    exact ⟨rfl, rfl⟩
  | true =>
    rw [hb] at ha
    have hm : m < 0 ∨ 65536 < m := by
      unfold newB at h; rw [hb] at h; simp at h; omega
    clear h
    rcases hm with h | h
    · have h1 : decide (m < 0) = true := by simpa using h
      go_enter Try.func7, Try.ntmps7
      go_wp2_with fail
      refine ha.mono ?_
      rintro e w1 ⟨rfl, rfl⟩
      go_wp2
      go_ret2
      exact ⟨rfl, rfl⟩
    · have h1 : decide (m < 0) = false := by simp; omega
      have h2 : decide (65536 < m) = true := by simpa using h
      go_enter Try.func7, Try.ntmps7
      go_wp2_with fail
      refine ha.mono ?_
      rintro e w1 ⟨rfl, rfl⟩
      go_wp2
      go_ret2
      exact ⟨rfl, rfl⟩
def newX (B : Nat) (w : World) : Sx := ⟨B, w.heap.size, .slice none 0 0, .slice none 0 0⟩
def newS (b m : Int) : Sk := ⟨b, m, []⟩
theorem new_inv {b m : Int} (h : newB b m = true) : SInv (newS b m) := by
  unfold newB allowB at h
  simp at h
  exact ⟨h.1.1, h.1.2, h.2.1, h.2.2, by simpa [newS, Sk.ws] using h.2.1, by simp [newS], by simp [newS, Sk.ws]⟩
theorem new_any (b m : Int) (w : World) (h : newB b m = true) (B : Nat) (hB : B ≤ w.heap.size) :
    Calls Try.prog 7 #[.int .i64 b, .int .i64 m] w fun e w' => e = .returned (.tuple #[(newX B w).p, .int .i64 0]) ∧ Sl (newX B w) w' (newS b m) ∧ Below w.heap.size w w' := by
  have ha := allowed_any b w
  have hb : allowB b = true ∧ 0 ≤ m ∧ m ≤ 65536 := by
    unfold newB at h; simp at h; exact h
  rw [hb.1] at ha
  have h1 : decide (m < 0) = false := by simp; omega
  have h2 : decide (65536 < m) = false := by simp; omega
  clear h hb
  go_enter Try.func7, Try.ntmps7
  go_wp2_with fail
  refine ha.mono ?_
  rintro e w1 ⟨rfl, rfl⟩
  go_wp2
  go_ret2
  refine ⟨rfl, ⟨?_, ⟨rfl, .inl ⟨rfl, rfl⟩⟩, ⟨rfl, .inl ⟨rfl, rfl⟩⟩, hB, by simp [newX]; omega⟩, (Below.refl _ _).alloc (Nat.le_refl _) _⟩
  rw [heap_new _ _ (by simp [newX])]; simp [newX, newS]
def PlE (s : Sk) (x : Int) : Ending :=
  match plc s x with
  | none => .returned (.tuple #[.int .i64 0, .bool false])
  | some i => .returned (.tuple #[.int .i64 i, .bool true])
section
variable {X : Sx} {s : Sk} {w : World}
set_option maxHeartbeats 1000000 in
theorem place_raw {A cap : Nat} {ao : Option Addr} (x : Int) (w : World) (I : SInv s) (c0 : w.cell? ⟨A, 0, none⟩ = some (.int .i64 s.base)) (c2 : w.cell? ⟨A, 2, none⟩ = some (.slice ao s.ws.length cap)) (hx : x ≤ 9223372036854775807) :
    Calls Try.prog 30 #[.pointer (some ⟨A, 0, none⟩), .int .i64 x] w fun e w' => e = PlE s x ∧ Below w.heap.size w w' := by
  have b1 := I.b1
  have b2 := I.b2
  have hfit := I.fit
  have hm1 := I.m1
  have b3 : (s.ws.length : Int) ≤ 65536 := by omega
  unfold PlE
  cases h : plc s x with
  | none =>
    simp only []
    have h' := plc_none h
    clear h hfit hm1 I
    generalize s.base = b at *
    generalize s.ws.length = n at *
    rcases h' with h1 | ⟨h1, h2⟩
    · have d1 : decide (x < b) = true := by simpa using h1
      go_enter Try.func30, Try.ntmps30
      go_wp2
      go_quiet (fail)
      go_wp2
      go_ret2
      exact ⟨rfl, below_drewN (Below.refl _ _) nq⟩
    · have d1 : decide (x < b) = false := by simp; omega
      have d2 : decide ((n : Int) ≤ x - b) = true := by simpa using h2
      have d3 : 1 ≤ x := by omega
      have d4 : x - b ≤ 9223372036854775807 := by omega
      go_enter Try.func30, Try.ntmps30
      go_wp2
      go_quiet (fail)
      go_wp2
      go_ret2
      exact ⟨rfl, below_drewN (Below.refl _ _) nq⟩
  | some i =>
    simp only []
    obtain ⟨rfl, hi⟩ := plc_some h
    clear h hfit hm1 hx
    have d0 : (i : Int) < (s.ws.length : Int) := by omega
    clear I hi
    generalize s.base = b at *
    generalize s.ws.length = n at *
    have d1 : decide (b + (i : Int) < b) = false := by simp; omega
    have d2 : decide ((n : Int) ≤ (i : Int)) = false := by simp; omega
    have d3 : b + (i : Int) - b = i := by omega
    go_enter Try.func30, Try.ntmps30
    go_wp2
    go_quiet (fail)
    have c0 : (w.drewN nq).cell? ⟨A, 0, none⟩ = some (.int .i64 b) := c0
    go_wp2
    go_ret2
    exact ⟨rfl, below_drewN (Below.refl _ _) nq⟩
theorem place_any (x : Int) (w : World) (L : Sl X w s) (I : SInv s) (hx : x ≤ 9223372036854775807) :
    Calls Try.prog 30 #[X.p, .int .i64 x] w fun e w' => e = PlE s x ∧ Below w.heap.size w w' := by
  obtain ⟨ao, cap, hv⟩ := L.wlen
  have c2 := L.c2
  rw [hv] at c2
  exact place_raw x w I L.c0 c2 hx
end
end Go.Proofs.Ytjapfckadikjiaa
