/- The document's Alloc of an arena, held against the program's. -/
import Derived.Test.YtimpmgbahgganaaRhKJp
namespace Go.Proofs.Ytimpmgbahgganaa
open Go.RowKit Go.Maps

section
variable {B : Nat} {w : World} {s : As} {r : Rs} {vp vs : Value}
theorem fits_again (I : Inv s) (S : Sim s r) {n : Nat} : ∀ (b : Nat) (q : Rp), BestR r.ps (clsN n) (some b) → r.ps[b]? = some q → 1 ≤ q.a ∧ q.a + n ≤ r.st.length := by
  intro b q hb hq
  obtain ⟨p, hp, e1, _, _, e4, _⟩ := S.back hq
  obtain ⟨q', h1, _, h3, _⟩ := hb
  rw [hq] at h1; cases h1
  obtain ⟨a1, a2, a3, _⟩ := I.row.at hp
  have hc : clsN n ≠ 0 := by rw [← h3, e4]; omega
  obtain ⟨n1, n2⟩ := cls_pos hc
  have hl := (cls_le n1 n2).1
  have hf := I.fits
  rw [S.st1, e1]
  rw [← h3, e4] at hl
  omega
theorem fits_cut (I : Inv s) (S : Sim s r) {n : Nat} : clsN n ≠ 0 → ¬ r.wd < r.ln + clsN n - 1 → 1 ≤ r.ln ∧ r.ln + n ≤ r.st.length ∧ r.ps.length < 65536 := by
  intro hc h
  obtain ⟨n1, n2⟩ := cls_pos hc
  have hl := (cls_le n1 n2).1
  have h1 := I.row.le
  have h2 := I.small
  rw [S.st1, S.ln, S.len]
  rw [S.wd, S.ln] at h
  omega
/-- What the document's Alloc comes to. -/
inductive AlS (s : As) (r : Rs) (vp vs : Value) (m : Nat) : Int → Int → Rs → Value → Value → Prop
  | arg : clsN m = 0 → AlS s r vp vs m 0 1 r vp vs
  | full : clsN m ≠ 0 → allocS s m = none → AlS s r vp vs m 0 7 r vp vs
  | made (x : Nat) (s' : As) (r' : Rs) (vp' vs' : Value) : clsN m ≠ 0 → allocS s m = some (x, s') → Sim s' r' → r'.fd = r.fd → AlS s r vp vs m x 0 r' vp' vs'
theorem ralloc_sim (I : Inv s) (S : Sim s r) (R : RL B w r vp vs) (m : Nat) :
    Calls Try.prog 29 #[rv r vp vs, .int .i64 m] w fun e w' => ∃ x c r' vp' vs', e = .returned (.tuple #[.int .i64 x, .int .i64 c, rv r' vp' vs']) ∧ AlS s r vp vs m x c r' vp' vs' ∧ ROut B w vp vs r' vp' vs' w' := by
  refine (ralloc_any (m : Int) R (fits_again I S) (fits_cut I S)).mono ?_
  rintro e w2 h
  have em : ((m : Int)).toNat = m := Int.toNat_natCast m
  cases h with
  | arg h he hb => exact ⟨0, 1, r, vp, vs, he, .arg (by rw [← em]; exact h), ⟨R.below hb, hb, fun _ h => .inl h, fun _ h => .inl h⟩⟩
  | full h hbest hroom he hb =>
    rw [em] at h hbest hroom
    refine ⟨0, 7, r, vp, vs, he, .full h ?_, ⟨R.below hb, hb, fun _ h => .inl h, fun _ h => .inl h⟩⟩
    obtain ⟨n1, n2⟩ := cls_pos h
    unfold allocS
    rcases best_sim I S hbest with ⟨_, h1⟩ | ⟨_, _, _, h2, _⟩
    · rw [h1]
      simp only [List.getLast?_nil]
      rw [S.wd, S.ln] at hroom
      rw [if_neg (by have := I.fits; have := cls_le n1 n2; omega)]
    · cases h2
  | again b' q vp' vs' h hbest hq he ho =>
    rw [em] at h hbest
    rw [em] at he ho
    obtain ⟨n1, n2⟩ := cls_pos h
    rcases best_sim I S hbest with ⟨h1, _⟩ | ⟨b2, p, q2, h1, h2, h3, h4, h5, h6, h7⟩
    · cases h1
    · cases h1
      rw [hq] at h3; cases h3
      have ha : allocS s m = some (p.a, markS (popS s (clsN m)) p.a m) := by unfold allocS; rw [h7]
      exact ⟨(p.a : Nat), 0, rAgain r b' q.a m, vp', vs', by rw [he, h4], .made p.a _ _ _ _ h ha (by rw [h4]; exact sim_again I S n1 n2 h2 h5 h7) rfl, ho⟩
  | cut vp' vs' h hbest hroom he ho =>
    rw [em] at h hbest hroom
    rw [em] at he ho
    obtain ⟨n1, n2⟩ := cls_pos h
    rcases best_sim I S hbest with ⟨_, h1⟩ | ⟨_, _, _, h2, _⟩
    · have hr : clsN m ≤ s.ws.length - s.gv := by rw [S.wd, S.ln] at hroom; have := I.fits; omega
      have ha : allocS s m = some (s.gv + 1, markS (pushS s (clsN m)) (s.gv + 1) m) := by
        unfold allocS
        rw [h1]
        simp only [List.getLast?_nil]
        rw [if_pos hr]
      refine ⟨(s.gv + 1 : Nat), 0, _, vp', vs', by rw [he, S.ln], .made _ _ _ _ _ h ha (sim_cut I S n1 n2 hr ha) rfl, ho⟩
    · cases h2
end
end Go.Proofs.Ytimpmgbahgganaa
