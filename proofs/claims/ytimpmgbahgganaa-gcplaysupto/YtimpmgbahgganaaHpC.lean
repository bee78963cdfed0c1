/- Make. -/
import Derived.Test.YtimpmgbahgganaaHpB
namespace Go.Proofs.Ytimpmgbahgganaa
open Go.RowKit Go.Maps

section
variable {Y : Hh} {w : World} {h : Hs} {k : Nat}
theorem int_ne {x y : Int} (h : x ≠ y) : Lit.int .i64 x ≠ Lit.int .i64 y := fun e => h (by simpa using e)
/-- An object more. -/
theorem ObMap.store {bo : Nat} {ob : Nat → Option (Nat × Nat)} (M : ObMap w bo k ob) {x : Nat} (hx : x ≤ 65536) (t n : Nat) (hk : k < 1000000000) :
    ∃ w1, (Instr.mapUpdate 73 (.map (some bo)) (.int .i64 x) (objV t n)).run Try.prog w = .ok () w1 ∧ w.grownBy w1 (some bo) ∧ ObMap w1 bo (k + 1) (upd ob x (some (t, n))) := by
  obtain ⟨D, hD, hh, hf⟩ := M
  obtain ⟨w1, h1, h2, h3⟩ := hD.update backs_keyed Try.underlying73 (by unfold maxLen; omega) (val := objV t n) (d := .held (objV t n)) (ps := []) (key_int x hx) rfl
  refine ⟨w1, h1, h3, _, h2, fun y => ?_, fun a t' n' ho z => ?_⟩
  · by_cases hy : y = x
    · subst hy
      rw [Maps.has_put_same hD.isMap (by simp [WideAt.IsKeyLit])]
      simp only [true_iff]
      exact ⟨x, rfl, by rw [upd_same]; rfl⟩
    · rw [Maps.has_put_other (int_ne hy), hh y]
      constructor
      · rintro ⟨a, rfl, hs⟩
        exact ⟨a, rfl, by rw [upd_other _ _ (fun e => hy (by rw [e]))]; exact hs⟩
      · rintro ⟨a, rfl, hs⟩
        rw [upd_other _ _ (fun e => hy (by rw [e]))] at hs
        exact ⟨a, rfl, hs⟩
  · by_cases ha : a = x
    · subst ha
      rw [upd_same] at ho; cases ho
      rw [Maps.atKey_put_same hD.isMap (by simp [WideAt.IsKeyLit])]
    · rw [upd_other _ _ ha] at ho
      rw [Maps.atKey_put_other (int_ne (fun e => ha (by omega)))]
      exact hf a t' n' ho z
/-- What Alloc answers of a number of words. -/
inductive AllocP (s : As) (n : Nat) : Int → Int → As → Prop
  | arg : 65536 < n → AllocP s n 0 1 s
  | full : n ≤ 65536 → allocS s n = none → AllocP s n 0 7 s
  | made (x : Nat) (s' : As) : n ≤ 65536 → allocS s n = some (x, s') → AllocP s n x 0 s'
theorem allocP_ex (s : As) (n : Nat) : ∃ y c s', AllocP s n y c s' := by
  rcases Nat.lt_or_ge 65536 n with h1 | h1
  · exact ⟨_, _, _, .arg h1⟩
  · cases h2 : allocS s n with
    | none => exact ⟨_, _, _, .full h1 h2⟩
    | some r => exact ⟨_, _, _, .made r.1 r.2 h1 h2⟩
theorem alloc_case {X : Wh} {s s' : As} {n : Nat} {y c : Int} (L : Lies X w s k) (I : Inv s) (h1 : 1 ≤ n) (A : AllocP s n y c s') (hk : k < 1000000000) :
    Calls Try.prog 28 #[X.p, .int .i64 n] w fun e w' => e = two (y, c) ∧ Hid (∃ X', Step X X' w w' ∧ Lies X' w' s' (k + 1)) := by
  refine (alloc_any L I n hk).mono ?_
  rintro e w' ⟨X', St, hh⟩
  rw [Int.toNat_natCast] at hh
  cases A with
  | arg h =>
    have h0 : clsN n = 0 := cls_none (.inr h)
    rcases hh with ⟨_, he, hl⟩ | ⟨h2, _⟩ | ⟨x, s2, h2, _⟩
    · exact ⟨he, X', St, hl⟩
    · exact absurd h0 h2
    · exact absurd h0 h2
  | full h h2 =>
    have h0 := cls_le h1 h
    rcases hh with ⟨h3, _⟩ | ⟨_, _, he, hl⟩ | ⟨x, s2, _, h3, _⟩
    · omega
    · exact ⟨he, X', St, hl⟩
    · rw [h2] at h3; cases h3
  | made x s2 h h2 =>
    have h0 := cls_le h1 h
    rcases hh with ⟨h3, _⟩ | ⟨_, h3, _⟩ | ⟨x2, s3, _, h3, he, hl⟩
    · omega
    · rw [h2] at h3; cases h3
    · rw [h2] at h3; cases h3
      exact ⟨he, X', St, hl⟩
theorem make_nil (t n : Int) (w : World) : Calls Try.prog 11 #[.pointer none, .int .i64 t, .int .i64 n] w fun e w' => e = two (0, 1) ∧ w' = w := by
  go_enter Try.func11, Try.ntmps11
  go_wp2
  go_ret2
  exact ⟨rfl, rfl⟩
theorem HLies.vform (L : HLies Y w h k) : ∃ ao cap, Y.vt = .slice ao h.ty.length cap := row_form L.tys
theorem make_none (L : HLies Y w h k) {t n : Int} (ht : t < 0 ∨ (h.ty.length : Int) ≤ t) : Calls Try.prog 11 #[Y.p, .int .i64 t, .int .i64 n] w fun e w' => e = two (0, 6) ∧ w' = w := by
  have c1 := L.c1
  obtain ⟨ao, cap, hv⟩ := L.vform
  rw [hv] at c1
  clear L hv
  generalize h.ty.length = l at *
  by_cases h0 : t < 0
  · have hd : decide (t < 0) = true := by simpa using h0
    go_enter Try.func11, Try.ntmps11
    go_wp2
    go_ret2
    exact ⟨rfl, rfl⟩
  · have hd : decide (t < 0) = false := by simpa using h0
    have hd2 : decide ((l : Int) ≤ t) = true := by simp; omega
    go_enter Try.func11, Try.ntmps11
    go_wp2
    go_ret2
    exact ⟨rfl, rfl⟩
theorem make_arg (L : HLies Y w h k) {m : Nat} {n : Int} (ht : m < h.ty.length) (hn : n < 0 ∨ 1024 < n) : Calls Try.prog 11 #[Y.p, .int .i64 m, .int .i64 n] w fun e w' => e = two (0, 1) ∧ w' = w := by
  have c1 := L.c1
  obtain ⟨ao, cap, hv⟩ := L.vform
  rw [hv] at c1
  clear L hv
  generalize h.ty.length = l at *
  have hd0 : decide ((m : Int) < 0) = false := by simp
  have hd1 : decide ((l : Int) ≤ (m : Int)) = false := by simp; omega
  have hd1' : decide (l ≤ m) = false := by simp; omega
  by_cases h0 : n < 0
  · have hd : decide (n < 0) = true := by simpa using h0
    go_enter Try.func11, Try.ntmps11
    go_wp2
    go_ret2
    exact ⟨rfl, rfl⟩
  · have hd : decide (n < 0) = false := by simpa using h0
    have hd2 : decide (1024 < n) = true := by simp; omega
    go_enter Try.func11, Try.ntmps11
    go_wp2
    go_ret2
    exact ⟨rfl, rfl⟩
end
end Go.Proofs.Ytimpmgbahgganaa
