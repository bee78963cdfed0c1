/- Make, where there is such a type. -/
import Derived.Test.YtimpmgbahgganaaHpC
import Derived.Deep.DrawnRows
import Derived.Lib.MinMax
namespace Go.Proofs.Ytimpmgbahgganaa
open Go.RowKit Go.Maps
attribute [local go_sem ↓] Go.wp_at_zero Go.wp_at_succ

section
variable {Y : Hh} {w : World} {h : Hs} {k : Nat}
theorem HLies.drew (L : HLies Y w h k) : HLies Y w.drew h k := L.below (Below.refl _ _).drew
/-- The heap behind its Alloc. -/
structure After (Y : Hh) (w w' : World) (h : Hs) (s' : As) (k : Nat) : Prop where
  ex : ∃ X', Step Y.X X' w w' ∧ Lies X' w' s' k
theorem After.lies {w' : World} {s' : As} {k' : Nat} (R : After Y w w' h s' k') (L : HLies Y w h k) (hk : k ≤ k') : ∃ Y', HLies Y' w' { h with s := s' } k' ∧ HStep Y Y' w w' ∧ Y'.vt = Y.vt ∧ Y'.bo = Y.bo ∧ Y'.X.p = Y.X.p := by
  obtain ⟨X', St, L'⟩ := R.ex
  exact ⟨{ Y with X := X' }, L.step St L' hk, HStep.of_step St, rfl, rfl, by show X'.p = _; unfold Wh.p; rw [St.A]⟩
theorem alloc_after {s' : As} {n : Nat} {y c : Int} (L : HLies Y w h k) (I : HInv h) (h1 : 1 ≤ n) (A : AllocP h.s n y c s') (hk : k < 1000000000) :
    Calls Try.prog 28 #[Y.X.p, .int .i64 n] w fun e w' => e = two (y, c) ∧ Hid (After Y w w' h s' (k + 1)) ∧ w'.cell? ⟨Y.H, 0, none⟩ = some Y.X.p ∧ w'.cell? ⟨Y.H, 1, none⟩ = some Y.vt ∧ w'.cell? ⟨Y.H, 2, none⟩ = some (.map (some Y.bo)) ∧ Hid (∀ (g o : Nat) (v : Value), Y.vt.ownBlock = some g → w.cell? ⟨g, o, none⟩ = some v → w'.cell? ⟨g, o, none⟩ = some v) := by
  refine (alloc_case L.L I.inv h1 A hk).mono ?_
  rintro e w' ⟨he, hr⟩
  have R : After Y w w' h s' (k + 1) := ⟨hr.out⟩
  obtain ⟨Y', L', S, e1, e2, e3⟩ := R.lies L (Nat.le_succ k)
  have eH := S.H
  refine ⟨he, R, ?_, ?_, ?_, fun g o v hg hv => ?_⟩
  · have := L'.c0; rw [eH, e3] at this; exact this
  · have := L'.c1; rw [eH, e1] at this; exact this
  · have := L'.c2; rw [eH, e2] at this; exact this
  · obtain ⟨X', St, _⟩ := hr.out
    have hb := St.block g (L.side_lt (.inr (.inr (.inl hg)))).2 (L.sep g (.inr (.inr (.inl hg))))
    rw [World.cell?_of_block (a := ⟨g, o, none⟩) hb]; exact hv
theorem After.undrew {w' : World} {s' : As} (R : After Y w.drew w' h s' k) : After Y w w' h s' k := by
  obtain ⟨X', St, L'⟩ := R.ex
  exact ⟨X', (Step.of_below (Below.refl _ _).drew).trans St, L'⟩
set_option maxHeartbeats 1000000 in
theorem make_err (L : HLies Y w h k) (I : HInv h) {m n : Nat} {f : List Bool} (hf : h.ty[m]? = some f) (hn : n ≤ 1024) (hk : k < 1000000000) {y c : Int} {s' : As} (A : AllocP h.s (owords f n) y c s') (hc : c ≠ 0) :
    Calls Try.prog 11 #[Y.p, .int .i64 m, .int .i64 n] w fun e w' => e = two (0, c) ∧ Hid (After Y w w' h s' (k + 1)) := by
  obtain ⟨g, cap, v, ao, fc, hv, cv, ht, hve, _⟩ := L.fields hf
  have hal := alloc_after L.drew I (owords_pos f n) A hk
  have c0 := L.c0
  have c1 := L.c1
  rw [hv] at c1
  subst hve
  have hfl := I.fl m f hf
  have htl := I.tl
  have hml : n * f.length ≤ 1024 * 4096 := Nat.mul_le_mul hn hfl
  have hmul := mul_cast n f.length
  have ow : owords f n = max 1 (n * f.length) := rfl
  rw [ow] at hal
  have HL := hide L
  have hgv : ∀ w2 : World, Hid (∀ (g o : Nat) (v : Value), Y.vt.ownBlock = some g → w.drew.cell? ⟨g, o, none⟩ = some v → w2.cell? ⟨g, o, none⟩ = some v) → w2.cell? ⟨g, m, none⟩ = some (.slice ao f.length fc) := fun w2 hh => hh.out g m _ (by rw [hv]; rfl) cv
  have HV := hide hv
  rw [hv] at hal
  clear A L I hf hv ow
  generalize h.ty.length = tl at *
  generalize n * f.length = q at *
  generalize f.length = l at *
  have ht' : (m : Int) < (tl : Int) := by omega
  have hq : (q : Int) ≤ 4194304 := by omega
  have hd0 : decide ((m : Int) < 0) = false := by simp
  have hd1 : decide ((tl : Int) ≤ (m : Int)) = false := by simp; omega
  have hd1' : decide (tl ≤ m) = false := by simp; omega
  have hd2 : decide ((n : Int) < 0) = false := by simp
  have hd3 : decide (1024 < (n : Int)) = false := by simp; omega
  have hcn : (c != 0) = true := by simpa using hc
  rw [show ((max 1 q : Nat) : Int) = max 1 (q : Int) by omega] at hal
  have hwq : IntKind.i64.wrap (q : Int) = (q : Int) := by rw [IntKind.wrap_i64]; omega
  go_enter Try.func11, Try.ntmps11
  go_wp2
  go_region_held3 (fun w' => w'.cell? ⟨Y.H, 0, none⟩ = some Y.X.p ∧ w'.cell? ⟨Y.H, 1, none⟩ = some (.slice (some ⟨g, 0, none⟩) tl cap) ∧ w'.cell? ⟨g, m, none⟩ = some (.slice ao l fc)) (first | go_keep | exact ⟨d0, d1, d3⟩) ((go_at_call 28; refine hal.mono ?_; rintro e w2 ⟨rfl, hr, d0, d1, d2, dd⟩; have d3 := hgv w2 (by rw [HV.out]; exact dd)))
  go_wp2
  go_ret2
  exact ⟨rfl, hr.out.undrew⟩
set_option maxHeartbeats 1000000 in
theorem make_ok (L : HLies Y w h k) (I : HInv h) {m n : Nat} {f : List Bool} (hf : h.ty[m]? = some f) (hn : n ≤ 1024) (hk0 : k < 900000000) {x : Nat} {s' : As} (hw : owords f n ≤ 65536) (ha : allocS h.s (owords f n) = some (x, s')) :
    Calls Try.prog 11 #[Y.p, .int .i64 m, .int .i64 n] w fun e w' => e = two (x, 0) ∧ ∃ Y', HLies Y' w' (makeH h m n x s') (k + 2) ∧ HStep Y Y' w w' := by
  have hk : k < 1000000000 := by omega
  have hk1 : k + 1 < 1000000000 := by omega
  have A : AllocP h.s (owords f n) x 0 s' := .made x s' hw ha
  have hx : x ≤ 65536 := by
    have G := alloc_given I.inv (owords_pos f n) hw ha
    obtain ⟨i, hp, _⟩ := G.piece
    have h1 := G.inv.row.at hp
    have h2 := G.inv.fits
    have h3 := G.inv.small
    simp only at h1
    omega
  obtain ⟨g, cap, v, ao, fc, hv, cv, ht, hve, _⟩ := L.fields hf
  have hal := alloc_after L.drew I (owords_pos f n) A hk
  have c0 := L.c0
  have c1 := L.c1
  rw [hv] at c1
  subst hve
  have hfl := I.fl m f hf
  have htl := I.tl
  have hml : n * f.length ≤ 1024 * 4096 := Nat.mul_le_mul hn hfl
  have hmul := mul_cast n f.length
  have ow : owords f n = max 1 (n * f.length) := rfl
  rw [ow] at hal
  have HL := hide L
  have hgv : ∀ w2 : World, Hid (∀ (g o : Nat) (v : Value), Y.vt.ownBlock = some g → w.drew.cell? ⟨g, o, none⟩ = some v → w2.cell? ⟨g, o, none⟩ = some v) → w2.cell? ⟨g, m, none⟩ = some (.slice ao f.length fc) := fun w2 hh => hh.out g m _ (by rw [hv]; rfl) cv
  have HV := hide hv
  rw [hv] at hal
  clear A L I hf hv ow ha hw
  generalize h.ty.length = tl at *
  generalize n * f.length = q at *
  generalize f.length = l at *
  have ht' : (m : Int) < (tl : Int) := by omega
  have hq : (q : Int) ≤ 4194304 := by omega
  have hd0 : decide ((m : Int) < 0) = false := by simp
  have hd1 : decide ((tl : Int) ≤ (m : Int)) = false := by simp; omega
  have hd1' : decide (tl ≤ m) = false := by simp; omega
  have hd2 : decide ((n : Int) < 0) = false := by simp
  have hd3 : decide (1024 < (n : Int)) = false := by simp; omega
  rw [show ((max 1 q : Nat) : Int) = max 1 (q : Int) by omega] at hal
  have hwq : IntKind.i64.wrap (q : Int) = (q : Int) := by rw [IntKind.wrap_i64]; omega
  go_enter Try.func11, Try.ntmps11
  go_wp2
  go_region_held3 (fun w' => w'.cell? ⟨Y.H, 0, none⟩ = some Y.X.p ∧ w'.cell? ⟨Y.H, 1, none⟩ = some (.slice (some ⟨g, 0, none⟩) tl cap) ∧ w'.cell? ⟨g, m, none⟩ = some (.slice ao l fc)) (first | go_keep | exact ⟨d0, d1, d3⟩) ((go_at_call 28; refine hal.mono ?_; rintro e w2 ⟨rfl, hr, d0, d1, d2, dd⟩; have d3 := hgv w2 (by rw [HV.out]; exact dd)))
  obtain ⟨Y', L', S, e1, e2, e3⟩ := hr.out.undrew.lies HL.out (Nat.le_succ k)
  obtain ⟨w3, hrun, hgrow, M⟩ := L'.map.store hx m n hk1
  have HR := hide (L'.turned hgrow M (Nat.le_succ _))
  have HS := hide S
  rw [e2] at hrun
  clear L' S e1 e2 e3 hgrow M hr hal dd d3 hgv
  go_wp2
  go_ret2
  refine ⟨rfl, Y', ?_, HS.out.trans HR.out.2⟩
  exact HR.out.1
end
end Go.Proofs.Ytimpmgbahgganaa
