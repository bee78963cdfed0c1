/- sound and pointers. -/
import Derived.Test.YtimpmgbahgganaaHpJ
import Derived.Shelf.SlicesE.IndexFunc
namespace Go.Proofs.Ytimpmgbahgganaa
open Go.RowKit Go.Maps

/-- The lists of fields of types, somewhere. -/
def LaysAt (w : World) (v : Value) (fs : List (List Int)) : Prop :=
  ∃ ao cap, v = .slice ao fs.length cap ∧ ∀ (j : Nat) (f : List Int), fs[j]? = some f → ∃ g o u, ao = some ⟨g, o, none⟩ ∧ g < w.heap.size ∧ w.cell? ⟨g, o + j, none⟩ = some u ∧ IntsAt w u f
theorem LaysAt.below {w w' : World} {v : Value} {fs : List (List Int)} (R : LaysAt w v fs) (hb : Below w.heap.size w w') : LaysAt w' v fs := by
  obtain ⟨ao, cap, h1, h2⟩ := R
  refine ⟨ao, cap, h1, fun j f hf => ?_⟩
  obtain ⟨g, o, u, h3, h4, h5, h6⟩ := h2 j f hf
  exact ⟨g, o, u, h3, Nat.lt_of_lt_of_le h4 hb.size, by rw [World.cell?_of_block (a := ⟨g, o + j, none⟩) (hb.block g h4)]; exact h5, h6.below hb⟩
def unkB (n : Nat) (x : Int) : Bool := decide (x < 0) || decide (((2 + 2 * n : Nat) : Int) ≤ x)
def goodF (n : Nat) (f : List Int) : Bool := decide (f.length ≤ 4096) && !f.any (unkB n)
/-- May there be such types? -/
def soundL (fs : List (List Int)) : Bool := decide (fs.length ≤ 1025) && fs.all (goodF fs.length)
/-- Which fields are pointers. -/
def ptrs (f : List Int) : List Bool := f.map fun x => x != 0
section
variable {w : World}
theorem unk_any {b n : Nat} (x : Int) (hb : w.cell? ⟨b, 0, none⟩ = some (.int .i64 ((2 + 2 * n : Nat) : Int))) :
    Calls Try.prog 46 (#[.int .i64 x] ++ #[.pointer (some ⟨b, 0, none⟩)]) w fun e w' => e = .returned (.bool (unkB n x)) ∧ ∃ q, w' = w.drewN q := by
  unfold unkB
  generalize ((2 + 2 * n : Nat) : Int) = m at *
  by_cases h0 : x < 0
  · have hd : decide (x < 0) = true := by simpa using h0
    rw [hd]
    go_enter Try.func46, Try.ntmps46
    go_wp2
    go_ret
    exact ⟨rfl, 0, rfl⟩
  · have hd : decide (x < 0) = false := by simpa using h0
    rw [hd]
    go_enter Try.func46, Try.ntmps46
    go_wp2
    go_ret
    exact ⟨by simp, 0, rfl⟩
theorem anyf_any {b n : Nat} {v : Value} {f : List Int} (R : IntsAt w v f) (hf : f.length ≤ 4096) (hlt : b < w.heap.size) (hb : w.cell? ⟨b, 0, none⟩ = some (.int .i64 ((2 + 2 * n : Nat) : Int))) :
    Calls Try.prog 47 #[v, .func (.func 46) #[] #[.pointer (some ⟨b, 0, none⟩)]] w fun e w' => e = .returned (.bool (f.any (unkB n))) ∧ ∃ q, w' = w.drewN q := by
  obtain ⟨ao, cap, rfl, hc⟩ := R
  cases f with
  | nil =>
    refine (AnyE.slices_ContainsFunc_empty Try.anyA ao cap _ w).mono ?_
    rintro e w' ⟨rfl, rfl⟩
    exact ⟨rfl, 0, rfl⟩
  | cons x r =>
    obtain ⟨_, g, o, h3, _⟩ := hc 0 x rfl
    subst h3
    refine (AnyE.slices_ContainsFunc Try.anyA (α := Int) (Value.int .i64) (unkB n) 46 #[.pointer (some ⟨b, 0, none⟩)] (enters_of Try.func46 (by kernel_rfl) rfl) g o (x :: r).length cap (x :: r) w
      (fun W y hW => unk_any y (by rw [World.cell?_of_block (a := ⟨b, 0, none⟩) (hW.block b hlt)]; exact hb)) (Nat.le_refl _) (by omega) (fun j hj => ?_)).mono ?_
    · obtain ⟨_, g', o', h4, _, h5⟩ := hc j _ (List.getElem?_eq_getElem hj)
      cases h4
      rw [h5, getElem!_pos _ j hj]
    · rintro e w' ⟨rfl, q, rfl⟩
      rw [List.take_length]
      exact ⟨rfl, q, rfl⟩
set_option maxHeartbeats 2000000 in
theorem sound_any {v : Value} {fs : List (List Int)} (R : LaysAt w v fs) :
    Calls Try.prog 25 #[v] w fun e w' => e = .returned (.bool (soundL fs)) ∧ Below w.heap.size w w' := by
  have HR := hide R
  obtain ⟨ao, cap, rfl, hc⟩ := R
  have HC := hide hc
  clear hc
  by_cases h0 : 1025 < fs.length
  · rw [show soundL fs = false by unfold soundL; rw [decide_eq_false (by omega)]; rfl]
    have hd : decide (1025 < (fs.length : Int)) = true := by simp; omega
    generalize fs.length = n at *
    go_enter Try.func25, Try.ntmps25
    go_wp2
    go_ret
    exact ⟨rfl, Below.refl _ _⟩
  · have hs0 : soundL fs = fs.all (goodF fs.length) := by unfold soundL; rw [decide_eq_true (by omega)]; rfl
    rw [hs0]
    clear hs0
    have hd : decide (1025 < (fs.length : Int)) = false := by simp; omega
    have hwr : IntKind.i64.wrap (2 * (fs.length : Int)) = 2 * (fs.length : Int) := by rw [IntKind.wrap_i64]; omega
    have hbe : (2 : Int) + 2 * (fs.length : Int) = ((2 + 2 * fs.length : Nat) : Int) := by omega
    have hn : (fs.length : Int) ≤ 1025 := by omega
    have HG : Hid (fs.all (goodF fs.length) = fs.all (goodF fs.length)) := hide rfl
    have HBE := hide hbe
    clear hbe HG
    generalize hN : fs.length = n at *
    have HN := hide hN
    clear hN
    have HS0 := hide (show Below w.heap.size w (w.alloc (.cells #[.int .i64 (2 + 2 * (n : Int))] 3)) ∧ w.heap.size < (w.alloc (.cells #[.int .i64 (2 + 2 * (n : Int))] 3)).heap.size ∧ (w.alloc (.cells #[.int .i64 (2 + 2 * (n : Int))] 3)).cell? ⟨w.heap.size, 0, none⟩ = some (.int .i64 ((2 + 2 * n : Nat) : Int)) from
      ⟨(Below.refl _ _).alloc (Nat.le_refl _) _, by simp, by rw [← HBE.out]; simp⟩)
    go_enter Try.func25, Try.ntmps25
    go_wp2
    go_loopw [17] (fun ir wr => ∃ j : Nat, j ≤ n ∧ ir = .int .i64 j ∧ Hid ((Below w.heap.size w wr ∧ w.heap.size < wr.heap.size ∧ wr.cell? ⟨w.heap.size, 0, none⟩ = some (.int .i64 ((2 + 2 * n : Nat) : Int))) ∧ ∀ (q : Nat) (f : List Int), q < j → fs[q]? = some f → goodF n f = true)) (fun ir _ => n - (intOf ir).toNat)
    case atStart => exact ⟨0, Nat.zero_le _, rfl, HS0.out, fun q x h0 => absurd h0 (Nat.not_lt_zero _)⟩
    case round =>
      obtain ⟨j, hj, rfl, hr⟩ := hrel
      by_cases hlt : j < n
      · obtain ⟨f, hf⟩ : ∃ f, fs[j]? = some f := ⟨fs[j]'(by rw [HN.out]; exact hlt), by simp⟩
        obtain ⟨g, o, u, rfl, hg, hcu, hfu⟩ := HC.out j f hf
        have hcu' : wr.cell? ⟨g, o + j, none⟩ = some u := by rw [World.cell?_of_block (a := ⟨g, o + j, none⟩) (hr.out.1.1.block g hg)]; exact hcu
        have bj : (j : Int) < (n : Int) := by omega
        have hb2 : Below w.heap.size w (wr.alloc (.cells #[u] 62)) := hr.out.1.1.alloc hr.out.1.1.size _
        have hF2 : IntsAt (wr.alloc (.cells #[u] 62)) u f := hfu.below hb2
        have hc2 : (wr.alloc (.cells #[u] 62)).cell? ⟨w.heap.size, 0, none⟩ = some (.int .i64 ((2 + 2 * n : Nat) : Int)) := by
          rw [World.cell?_of_block (a := ⟨w.heap.size, 0, none⟩) (Below.heap_alloc wr _ w.heap.size hr.out.1.2.1)]; exact hr.out.1.2.2
        have hz2 : w.heap.size < (wr.alloc (.cells #[u] 62)).heap.size := by have := hr.out.1.2.1; simp; omega
        obtain ⟨au, cu, hue, _⟩ := hfu
        have HX := hide hf
        have HB2 := hide (And.intro hb2 (And.intro hz2 hc2))
        by_cases h4 : 4096 < f.length
        · have hd4 : decide (4096 < (f.length : Int)) = true := by simp; omega
          have HG : Hid (fs.all (goodF n) = false) := hide (by
            rw [List.all_eq_false]
            exact ⟨f, List.mem_of_getElem? hf, by unfold goodF; rw [decide_eq_false (by omega)]; simp⟩)
          subst hue
          clear hcu hf hF2 hc2 hz2 hb2
          generalize f.length = fl at *
          go_wp2
          go_ret
          exact ⟨by rw [HG.out]; rfl, HB2.out.1⟩
        · have hany := anyf_any hF2 (by omega) hz2 hc2
          have hd4 : decide (4096 < (f.length : Int)) = false := by simp; omega
          have HL4 := hide (show f.length ≤ 4096 by omega)
          subst hue
          clear hcu hf hF2 hc2 hz2 hb2
          cases ha : f.any (unkB n) with
          | true =>
            rw [ha] at hany
            have HG : Hid (fs.all (goodF n) = false) := hide (by
              rw [List.all_eq_false]
              exact ⟨f, List.mem_of_getElem? HX.out, by unfold goodF; rw [ha]; simp⟩)
            clear ha
            generalize f.length = fl at *
            go_wp2_with fail
            refine hany.mono ?_
            rintro e w3 ⟨rfl, q, rfl⟩
            go_wp2
            go_ret
            exact ⟨by rw [HG.out]; rfl, below_drewN HB2.out.1 q⟩
          | false =>
            rw [ha] at hany
            have HG : Hid (goodF n f = true) := hide (by unfold goodF; rw [ha, decide_eq_true HL4.out]; rfl)
            clear ha
            generalize f.length = fl at *
            go_wp2_with fail
            refine hany.mono ?_
            rintro e w3 ⟨rfl, q, rfl⟩
            go_wp2
            go_roundw
            case rel => exact ⟨j + 1, by omega, by go_num, ⟨below_drewN HB2.out.1 q, HB2.out.2.1, HB2.out.2.2⟩, fun p y hp hy => by
              rcases Nat.lt_or_ge p j with h0 | h0
              · exact hr.out.2 p y h0 hy
              · obtain rfl : p = j := by omega
                rw [HX.out] at hy; cases hy; exact HG.out⟩
            case measure => simp [intOf]; omega
      · obtain rfl : j = n := by omega
        have HG : Hid (fs.all (goodF j) = true) := hide (by
          rw [List.all_eq_true]
          intro f hf
          obtain ⟨q, hq⟩ := List.getElem?_of_mem hf
          exact hr.out.2 q f (by rw [← HN.out]; exact get_lt hq) hq)
        go_wp2
        go_ret
        exact ⟨by rw [HG.out]; rfl, hr.out.1.1⟩
end
end Go.Proofs.Ytimpmgbahgganaa
