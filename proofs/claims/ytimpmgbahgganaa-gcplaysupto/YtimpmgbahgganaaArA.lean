/- Class, and the place of the last piece that does not begin behind an address. -/
import Derived.Test.YtimpmgbahgganaaArW
import Derived.Test.YtimpmgbahgganaaArS
import Derived.Test.YtimpmgbahgganaaArT
import Derived.Laws.ShiftsVarLaws
import Derived.Deep.QuietTactic
import Derived.BigQuiet
namespace Go.Proofs.Ytimpmgbahgganaa
open Go.RowKit Go.Maps
theorem ret_int {k : IntKind} {a b : Int} (h : a = b) : Ending.returned (.int k a) = .returned (.int k b) := by rw [h]

theorem class_none (n : Int) (w : World) (h : n < 1 ∨ 65536 < n) : Calls Try.prog 48 #[.int .i64 n] w fun e w' => e = .returned (.int .i64 0) ∧ w' = w := by
  rcases h with h | h
  · have h1 : decide (n < 1) = true := by simpa using h
    go_enter Try.func48, Try.ntmps48
    go_wp2
    go_ret
    exact ⟨rfl, rfl⟩
  · have h1 : decide (n < 1) = false := by simp; omega
    have h2 : decide (65536 < n) = true := by simpa using h
    go_enter Try.func48, Try.ntmps48
    go_wp2
    go_ret
    exact ⟨rfl, rfl⟩
theorem class_big (n : Nat) (w : World) (h : 4096 < n) (h' : n ≤ 65536) : Calls Try.prog 48 #[.int .i64 n] w fun e w' => e = .returned (.int .i64 (((n + 1023) / 1024 * 1024 : Nat) : Int)) ∧ w' = w := by
  have h1 : decide ((n : Int) < 1) = false := by simp; omega
  have h2 : decide (65536 < (n : Int)) = false := by simp; omega
  have h3 : decide (4096 < (n : Int)) = true := by simp; omega
  have b1 : 4096 < (n : Int) := by omega
  have b2 : (n : Int) ≤ 65536 := by omega
  go_enter Try.func48, Try.ntmps48
  go_wp2
  go_ret
  exact ⟨ret_int (by omega), rfl⟩
theorem pow_small : ∀ b : Nat, b ≤ 12 → wrap64 (2 ^ b) = ((2 ^ b : Nat) : Int) ∧ wrap64 (wrap64 ((wrap64 (2 ^ b)).tdiv 4) * 3) = ((2 ^ b / 4 * 3 : Nat) : Int) := by
  intro b hb
  rcases b with _ | _ | _ | _ | _ | _ | _ | _ | _ | _ | _ | _ | _ | b
  all_goals first | (exfalso; omega) | exact ⟨by decide +kernel, by decide +kernel⟩
theorem class_small (n : Nat) (w : World) (h : 1 ≤ n) (h' : n ≤ 4096) : Calls Try.prog 48 #[.int .i64 n] w fun e w' => e = .returned (.int .i64 (clsN n : Nat)) ∧ w' = w := by
  have h1 : decide ((n : Int) < 1) = false := by simp; omega
  have h2 : decide (65536 < (n : Int)) = false := by simp; omega
  have h3 : decide (4096 < (n : Int)) = false := by simp; omega
  have b1 : 1 ≤ (n : Int) := by omega
  have b2 : (n : Int) ≤ 4096 := by omega
  have hb := (okC_parts h h').2.2.2.2.2
  have hc := Try.bits_Len ((n : Int) - 1) w (by omega) (by omega)
  rw [show ((n : Int) - 1).toNat = n - 1 from by omega] at hc
  have hcs := cls_small h h'
  generalize Lib.bitLen (n - 1) = b at hb hc hcs
  generalize clsN n = r at hcs ⊢
  have HC := hide hcs
  clear hcs
  go_enter Try.func48, Try.ntmps48
  go_wp2_with fail
  refine hc.mono ?_
  rintro e w1 ⟨rfl, rfl⟩
  go_wp2
  · rename_i hx
    go_ret
    obtain ⟨p1, p2⟩ := pow_small b hb
    rw [p2] at hx
    exact ⟨ret_int (by rw [p2, HC.out, if_pos (by omega)]), rfl⟩
  · rename_i hx
    go_ret
    obtain ⟨p1, p2⟩ := pow_small b hb
    rw [p2] at hx
    exact ⟨ret_int (by rw [p1, HC.out, if_neg (by omega)]), rfl⟩
/-- Class of any number. -/
theorem class_any (n : Int) (w : World) : Calls Try.prog 48 #[.int .i64 n] w fun e w' => e = .returned (.int .i64 (clsN n.toNat : Nat)) ∧ w' = w := by
  rcases Int.lt_or_le n 1 with h | h
  · rw [show clsN n.toNat = 0 from cls_none (.inl (by omega))]; exact class_none n w (.inl h)
  · rcases Int.lt_or_le 65536 n with h2 | h2
    · rw [show clsN n.toNat = 0 from cls_none (.inr (by omega))]; exact class_none n w (.inr h2)
    · obtain ⟨m, rfl⟩ := Int.eq_ofNat_of_zero_le (show 0 ≤ n by omega)
      rw [Int.toNat_natCast]
      rcases Nat.lt_or_ge 4096 m with h3 | h3
      · rw [cls_big h3 (by omega)]; exact class_big m w h3 (by omega)
      · exact class_small m w (by omega) h3

/-- The closure that looks whether a piece begins behind an address. -/
theorem last1_any {X : Wh} {s : As} {k ba bx i : Nat} {x : Int} {p : Pc} (W : World) (L : Lies X W s k) (hp : s.ps[i]? = some p)
    (ha : W.cell? ⟨ba, 0, none⟩ = some X.p) (hx : W.cell? ⟨bx, 0, none⟩ = some (.int .i64 x)) :
    Calls Try.prog 65 (#[.int .i64 i] ++ #[.pointer (some ⟨ba, 0, none⟩), .pointer (some ⟨bx, 0, none⟩)]) W fun e w' => e = .returned (.bool (decide (x < p.a))) ∧ ∃ q, w' = W.drewN q := by
  obtain ⟨g, cap, hv, c1, _, _⟩ := L.piece hp
  have hlt : i < s.ps.length := by
    rcases Nat.lt_or_ge i s.ps.length with h1 | h1
    · exact h1
    · rw [List.getElem?_eq_none h1] at hp; cases hp
  have c2 := L.c2
  rw [hv] at c2
  generalize s.ps.length = m at hlt c2
  have h1 : (i : Int) < (m : Int) := by omega
  clear hp hv L
  go_enter Try.func65, Try.ntmps65
  go_wp2
  go_region
  all_goals go_wp2
  all_goals go_ret
  all_goals exact ⟨by first | rfl | simp, 1, rfl⟩

open Go.Shelf Go.Lib Go.Sort in
set_option maxHeartbeats 1000000 in
/-- The place of the last piece that does not begin behind an address; -1 if there is none. -/
theorem last_any {X : Wh} {s : As} {k : Nat} (x : Int) (w : World) (L : Lies X w s k) (I : Inv0 s) :
    Calls Try.prog 51 #[X.p, .int .i64 x] w fun e w' => e = .returned (.int .i64 ((cnt s.ps x : Int) - 1)) ∧ Below w.heap.size w w' := by
  have hlen := I.pieces
  obtain ⟨W0, hW0⟩ : ∃ W0, W0 = (w.alloc (.cells #[X.p] 69)).alloc (.cells #[.int .i64 x] 3) := ⟨_, rfl⟩
  have hsize : W0.heap.size = w.heap.size + 1 + 1 := by rw [hW0]; simp
  have L0 : Lies X W0 s k := by rw [hW0]; exact (L.alloc _).alloc _
  have ca : W0.cell? ⟨w.heap.size, 0, none⟩ = some X.p := by rw [hW0]; exact cell_alloc_sl _ (cell_new_sl w _ _)
  have cx : W0.cell? ⟨w.heap.size + 1, 0, none⟩ = some (.int .i64 x) := by rw [hW0]; have := cell_new_sl (w.alloc (.cells #[X.p] 69)) (.int .i64 x) 3; rwa [World.size_alloc] at this
  have eg : ∀ args w, (callFunc 65 args).run Try.prog w = .ok (.enter 65 args) w := enters_of Try.func65 (by kernel_rfl) rfl
  have hlk : ∀ m os, Lies X (grow (W0.drewN m) os) s k := fun m os => L0.keep (fun j hj => by
    have := (L0.own_lt hj).2
    show ((W0.drewN m).heap ++ os)[j]? = _
    rw [Array.getElem?_append_left (by show j < W0.heap.size; omega)]; rfl) (by simp [grow])
  have hS := Any.sort_Search Try.laysSearch 65 #[.pointer (some ⟨w.heap.size, 0, none⟩), .pointer (some ⟨w.heap.size + 1, 0, none⟩)] s.ps.length (fun i => decide (x < (s.ps.toArray[i]!).a)) W0 eg (by omega)
    (fun m os i hi => (last1_any (p := s.ps.toArray[i]!) _ (hlk m os) (by rw [getElem!_pos _ i (by simpa using hi)]; simp) (cell_grown (by simp [hsize]; omega) ca m os) (cell_grown (by simp [hsize]) cx m os)).mono
      fun _ _ ⟨he, q, hq⟩ => ⟨he, q, #[], by rw [hq, grow_empty]⟩)
    (fun a b hab hb h => by
      rcases Nat.eq_or_lt_of_le hab with rfl | hlt
      · exact h
      · rw [getElem!_pos _ b (by simpa using hb)]
        rw [getElem!_pos _ a (by simp; omega)] at h
        have := I.row.apart (i := a) (j := b) (p := s.ps[a]'(by omega)) (q := s.ps[b]) (by simp) (by simp) hlt
        simp at h ⊢; omega)
  have hcnt : (List.range s.ps.length).countP (fun i => !decide (x < (s.ps.toArray[i]!).a)) = cnt s.ps x := by
    have := Lib.countP_range s.ps.toArray (fun y => !decide (x < (y.a : Int)))
    simp only [List.size_toArray] at this
    rw [this]
    unfold cnt
    congr 1
    funext y
    rw [Bool.eq_iff_iff]; simp
  rw [hcnt] at hS
  change Calls Try.prog 66 _ _ _ at hS
  have hle := cnt_le s.ps x
  have c2 := L0.c2
  obtain ⟨ao, cap, hv⟩ : ∃ ao cap, X.vp = .slice ao s.ps.length cap := by
    rcases L.pform with ⟨h1, h2⟩ | ⟨g, cap, _, h2, _⟩
    · rw [h1]; exact ⟨none, 0, h2⟩
    · exact ⟨_, cap, h2⟩
  rw [hv] at c2
  have hB0 : Below w.heap.size w W0 := by rw [hW0]; exact ((Below.refl _ w).alloc (Nat.le_refl _) _).alloc (by simp) _
  clear hlk cx hcnt hv L0
  clear L I
  generalize cnt s.ps x = r at hS hle ⊢
  generalize s.ps.length = m at hS hle hlen c2
  subst hW0
  go_enter Try.func51, Try.ntmps51
  go_wp2_with fail
  refine hS.mono ?_
  rintro e w' ⟨rfl, q, os, rfl⟩
  go_wp2
  go_ret
  exact ⟨rfl, hB0.trans (below_grown_sl w.heap.size _ q os (by omega))⟩
end Go.Proofs.Ytimpmgbahgganaa
