/- The law ArenaAgain. -/
import Derived.Test.YtimpmgbahgganaaArO
import Derived.OpenShut
namespace Go.Proofs.Ytimpmgbahgganaa
open Go.RowKit Go.Maps

theorem hold_off {ps : List Pc} {b e i : Nat} {p : Pc} {x : Int} (h : Row b ps e) (hp : ps[i]? = some p) (h1 : (p.a : Int) ≤ x) (h2 : x < p.a + p.c) (h3 : (p.n : Int) ≤ x - p.a) : hold ps x = none := by
  have hc := h.cnt_at hp h1 h2
  unfold hold
  rw [hc, Nat.add_sub_cancel, hp]
  simp only
  rw [if_neg (by omega)]
theorem beg_off {ps : List Pc} {x : Int} (h : hold ps x = none) : beg ps x = none := by unfold beg; rw [h]
/-- The word of a piece right behind its Alloc. -/
theorem Given.zero {s s' : As} {n x : Nat} (G : Given s n x s') (j : Nat) (hj : j < n) : getP s' ((x + j : Nat) : Int) = (0, 0) := by
  obtain ⟨i, hp, _, _⟩ := G.piece
  have hr := G.inv.row.at hp
  have hw := G.within
  have hl := G.len
  have hf := G.inv.fits
  unfold getP
  rw [hold_mk G.inv.row hp (by simp only; omega) (by simp only; omega)]
  simp only [Int.toNat_natCast]
  rw [G.ws, clr_get (by simp only at hr; omega), if_pos (by omega)]
  rfl
def ag1 (x : Nat) : As := markS (pushS (newS 3000) (clsN x)) 1 x
theorem cls_100 {x : Nat} (h1 : 1 ≤ x) (h2 : x ≤ 100) : 1 ≤ clsN x ∧ clsN x ≤ 128 := by
  have := (List.all_eq_true.1 (show (List.range 101).all (fun n => n == 0 || (decide (1 ≤ clsN n) && decide (clsN n ≤ 128))) = true by decide +kernel)) x (by simp; omega)
  simp at this; omega
theorem ag_alloc {x : Nat} (h1 : 1 ≤ x) (h2 : x ≤ 100) : allocS (newS 3000) x = some (1, ag1 x) := by
  have := cls_100 h1 h2
  unfold allocS
  rw [show (newS 3000).bk (clsN x) = [] from rfl]
  simp only [List.getLast?_nil]
  rw [if_pos (by rw [show (newS 3000).ws.length = 3000 from List.length_replicate, show (newS 3000).gv = 0 from rfl]; omega)]
  rfl
theorem ag_ps (x : Nat) : (ag1 x).ps = [⟨1, clsN x, x⟩] := by
  show mark [⟨0 + 1, clsN x, 0⟩] (cnt [⟨0 + 1, clsN x, 0⟩] ((1 : Nat) : Int) - 1) x = _
  rfl
/-- The second Alloc. -/
theorem ag_second {s : As} {c x y : Nat} (hc : c = clsN x) (h1 : 1 ≤ y) (h2 : y ≤ 100) (hc2 : c ≤ 128) (hbk : s.bk = upd (fun _ => []) c [1]) (hgv : s.gv = c) (hl : s.ws.length = 3000) :
    ∃ q s', allocS s y = some (q, s') ∧ ((c = clsN y ∧ q = 1) ∨ (c ≠ clsN y ∧ q = c + 1)) := by
  have := cls_100 h1 h2
  by_cases h : c = clsN y
  · refine ⟨1, markS (popS s (clsN y)) 1 y, ?_, .inl ⟨h, rfl⟩⟩
    unfold allocS
    rw [hbk, ← h, upd_same]
    rfl
  · refine ⟨c + 1, markS (pushS s (clsN y)) (c + 1) y, ?_, .inr ⟨h, rfl⟩⟩
    unfold allocS
    rw [hbk, upd_other _ _ (Ne.symm h)]
    simp only [List.getLast?_nil]
    rw [if_pos (by omega), hgv]
end Go.Proofs.Ytimpmgbahgganaa
