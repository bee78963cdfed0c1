/- The two Allocs beside one another. -/
import Derived.Test.YteeadmkljcjjkaaArRf
import Derived.Test.YteeadmkljcjjkaaArRu
namespace Go.Proofs.Yteeadmkljcjjkaa
open Go.RowKit Go.Maps

section
variable {w0 w : World} {X : Wh} {s : As} {r : Rs} {vp vs : Value} {k b : Nat}
theorem fits_again (I : Inv s) (S : Sim s r) {n : Nat} : ∀ (b : Nat) (q : Rp), BestR r.ps (clsN n) (some b) → r.ps[b]? = some q → 1 ≤ q.a ∧ q.a + n ≤ r.st.length := by
  intro b q hb hq
  obtain ⟨p, hp, e1, _, _, e4, _⟩ := S.back hq
  obtain ⟨q', h1, _, h3, _⟩ := hb
  rw [hq] at h1; cases h1
  obtain ⟨a1, a2, a3, _⟩ := I.row.at hp
  have hc : clsN n ≠ 0 := by rw [← h3, e4]; omega
  obtain ⟨n1, n2⟩ := cls_pos hc
  have hl := (cls_le n1 n2).1
  have hf := I.fits
  rw [S.st1, e1]
  rw [← h3, e4] at hl
  omega
theorem fits_cut (I : Inv s) (S : Sim s r) {n : Nat} : clsN n ≠ 0 → ¬ r.wd < r.ln + clsN n - 1 → 1 ≤ r.ln ∧ r.ln + n ≤ r.st.length ∧ r.ps.length < 65536 := by
  intro hc h
  obtain ⟨n1, n2⟩ := cls_pos hc
  have hl := (cls_le n1 n2).1
  have h1 := I.row.le
  have h2 := I.small
  rw [S.st1, S.ln, S.len]
  rw [S.wd, S.ln] at h
  omega
theorem alloc_pair : AllocPair := by
  intro w0 w X s r vp vs k b T I S hf hk n
  refine (alloc_any T.L I n (by omega)).mono ?_
  rintro e w1 ⟨X', St, h⟩
  have hp : X'.p = X.p := by unfold Wh.p; rw [St.A]
  rcases h with ⟨h0, rfl, L'⟩ | ⟨h0, ha, rfl, L'⟩ | ⟨x, s', h0, ha, rfl, L'⟩
  · have T1 := T.prog St L'
    refine ⟨0, 1, X', s, rfl, St.block, T1, hp, (ralloc_any n T1.R (fits_again I S) (fits_cut I S)).mono ?_⟩
    rintro e2 w2 h
    cases h with
    | arg _ he hb => exact ⟨r, vp, vs, he, hb.block b (lt_of_block T1.box), T1.store (ROut.same T1.R hb), I, S, by omega⟩
    | full h _ _ _ _ => exact absurd h0 h
    | again _ _ _ _ h _ _ _ _ => exact absurd h0 h
    | cut _ _ h _ _ _ _ => exact absurd h0 h
  · have T1 := T.prog St L'
    obtain ⟨n1, n2⟩ := cls_pos h0
    refine ⟨0, 7, X', s, rfl, St.block, T1, hp, (ralloc_any n T1.R (fits_again I S) (fits_cut I S)).mono ?_⟩
    rintro e2 w2 h
    unfold allocS at ha
    cases h with
    | arg h _ _ => exact absurd h h0
    | full _ _ _ he hb => exact ⟨r, vp, vs, he, hb.block b (lt_of_block T1.box), T1.store (ROut.same T1.R hb), I, S, by omega⟩
    | again b' q _ _ _ hbest _ _ _ =>
      rcases best_sim I S hbest with ⟨h1, _⟩ | ⟨_, p, _, _, _, _, _, _, _, h2⟩
      · cases h1
      · rw [h2] at ha; cases ha
    | cut _ _ _ hbest hroom _ _ =>
      rcases best_sim I S hbest with ⟨_, h1⟩ | ⟨_, _, _, h2, _⟩
      · rw [h1] at ha
        simp only [List.getLast?_nil] at ha
        rw [S.wd, S.ln] at hroom
        rw [if_pos (by have := I.fits; omega)] at ha
        cases ha
      · cases h2
  · have T1 := T.prog St L'
    obtain ⟨n1, n2⟩ := cls_pos h0
    have G := alloc_given I n1 n2 ha
    refine ⟨(x : Nat), 0, X', s', rfl, St.block, T1, hp, (ralloc_any n T1.R (fits_again I S) (fits_cut I S)).mono ?_⟩
    rintro e2 w2 h
    have ha0 := ha
    unfold allocS at ha
    cases h with
    | arg h _ _ => exact absurd h h0
    | full _ hbest hroom _ _ =>
      rcases best_sim I S hbest with ⟨_, h1⟩ | ⟨_, _, _, h2, _⟩
      · rw [h1] at ha
        simp only [List.getLast?_nil] at ha
        rw [S.wd, S.ln] at hroom
        rw [if_neg (by have := I.fits; have := cls_le n1 n2; omega)] at ha
        cases ha
      · cases h2
    | again b' q vp' vs' _ hbest hq he ho =>
      rcases best_sim I S hbest with ⟨h1, _⟩ | ⟨b2, p, q2, h1, h2, h3, h4, h5, h6, h7⟩
      · cases h1
      · cases h1
        rw [hq] at h3; cases h3
        rw [h7] at ha
        simp only [Option.some.injEq, Prod.mk.injEq] at ha
        obtain ⟨rfl, rfl⟩ := ha
        refine ⟨rAgain r b' q.a n.toNat, vp', vs', by rw [he, h4], ho.below.block b (lt_of_block T1.box), T1.store ho, G.inv, ?_, by show r.fd ≤ _; omega⟩
        rw [h4]
        exact sim_again I S n1 n2 h2 h5 h7
    | cut vp' vs' _ hbest hroom he ho =>
      rcases best_sim I S hbest with ⟨_, h1⟩ | ⟨_, _, _, h2, _⟩
      · rw [h1] at ha
        simp only [List.getLast?_nil] at ha
        rw [S.wd, S.ln] at hroom
        have hr : clsN n.toNat ≤ s.ws.length - s.gv := by have := I.fits; omega
        rw [if_pos hr] at ha
        simp only [Option.some.injEq, Prod.mk.injEq] at ha
        obtain ⟨rfl, rfl⟩ := ha
        refine ⟨rCut r (clsN n.toNat) n.toNat, vp', vs', by rw [he, S.ln], ho.below.block b (lt_of_block T1.box), T1.store ho, G.inv, sim_cut I S n1 n2 hr ha0, by show r.fd ≤ _; omega⟩
      · cases h2
end
end Go.Proofs.Yteeadmkljcjjkaa
