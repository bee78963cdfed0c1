/- VerifyAdds: the law's region that draws (the tables), step by step: plain. -/
import Derived.Test.YtaeheikhpepipaaDoorVfAf
namespace Go.Proofs.YtaeheikhpepipaaDoor
open Go.RowKit
/-- Where the region stands: the empty list, the copied one, the new table, the list of it. -/
structure Rg (Wb : World) (B : Nat) (l : List (List Int)) (fl : Int) (X : World) (e0 : Option Nat) (v5 : Option Value) (i1 i2 : Option Nat) : Prop where
  bel : Below Wb.heap.size Wb X
  hE : ∀ x, e0 = some x → v5 = none → Wb.heap.size ≤ x ∧ X.heap[x]? = some (.cells #[] 44 (0, 0))
  h5 : ∀ v, v5 = some v → Rw Wb.heap.size 44 1 (LstP B Wb) X v l ∧ ∀ g, v.ownBlock = some g → i1 ≠ some g ∧ i2 ≠ some g
  h1 : ∀ x, i1 = some x → Wb.heap.size ≤ x ∧ X.heap[x]? = some (.cells #[.int .i64 fl] 3 (0, 0))
  h2 : ∀ x y, i1 = some x → i2 = some y → Wb.heap.size ≤ y ∧ X.heap[y]? = some (.cells #[.slice (some ⟨x, 0, none⟩) 1 1] 44 (0, 0))
section
variable {Wb X : World} {B b : Nat} {l : List (List Int)} {fl : Int} {e0 : Option Nat} {v5 : Option Value} {i1 i2 : Option Nat} {v : Value}
theorem al_old (X : World) (o : Obj) {j : Nat} {u : Obj} (h : X.heap[j]? = some u) : (X.alloc o).heap[j]? = some u := by rw [heap_alloc_old _ _ (lt_of_block h)]; exact h
theorem Rw.al {Q : List Value → List Int → Prop} {C e : Nat} (R : Rw C e 1 Q X v l) (o : Obj) : Rw C e 1 Q (X.alloc o) v l := by
  obtain ⟨css, d1, d2⟩ := R
  exact ⟨css, ownsRow_keep d1 (fun g hg => heap_alloc_old _ _ (own_ge d1 g hg).2), d2⟩
theorem Rg.begin : Rg Wb B l fl Wb none none none none := ⟨Below.refl _ _, fun _ h => (by cases h), fun _ h => (by cases h), fun _ h => (by cases h), fun _ _ h => by cases h⟩
theorem Rg.begin' : Rg Wb B l fl Wb.drew none none none none := ⟨below_drew (Below.refl _ _), fun _ h => (by cases h), fun _ h => (by cases h), fun _ h => (by cases h), fun _ _ h => by cases h⟩
theorem Rg.emp (R : Rg Wb B l fl X none none i1 i2) : Rg Wb B l fl (X.alloc (.cells #[] 44)) (some X.heap.size) none i1 i2 :=
  ⟨R.bel.alloc R.bel.size _, fun x h _ => by cases h; exact ⟨R.bel.size, heap_new _ _ rfl⟩, fun _ h => (by cases h), fun x h => ⟨(R.h1 x h).1, al_old _ _ (R.h1 x h).2⟩, fun x y h g => ⟨(R.h2 x y h g).1, al_old _ _ (R.h2 x y h g).2⟩⟩
theorem Rg.one (R : Rg Wb B l fl X e0 v5 none none) : Rg Wb B l fl (X.alloc (.cells #[.int .i64 fl] 3)) e0 v5 (some X.heap.size) none :=
  ⟨R.bel.alloc R.bel.size _, fun x h g => ⟨(R.hE x h g).1, al_old _ _ (R.hE x h g).2⟩, fun v h => ⟨(R.h5 v h).1.al _, fun g hg => ⟨fun e => by
    obtain ⟨css, d1, _⟩ := (R.h5 v h).1
    have := (own_ge d1 g hg).2
    cases e
    omega, fun e => by cases e⟩⟩, fun x h => by cases h; exact ⟨R.bel.size, heap_new _ _ rfl⟩, fun x y _ h => by cases h⟩
theorem Rg.two {x : Nat} (R : Rg Wb B l fl X e0 v5 (some x) none) : Rg Wb B l fl (X.alloc (.cells #[.slice (some ⟨x, 0, none⟩) 1 1] 44)) e0 v5 (some x) (some X.heap.size) :=
  ⟨R.bel.alloc R.bel.size _, fun x h g => ⟨(R.hE x h g).1, al_old _ _ (R.hE x h g).2⟩, fun v h => ⟨(R.h5 v h).1.al _, fun g hg => ⟨((R.h5 v h).2 g hg).1, fun e => by
    obtain ⟨css, d1, _⟩ := (R.h5 v h).1
    have := (own_ge d1 g hg).2
    cases e
    omega⟩⟩, fun x h => ⟨(R.h1 x h).1, al_old _ _ (R.h1 x h).2⟩, fun x y h g => by cases h; cases g; exact ⟨R.bel.size, heap_new _ _ rfl⟩⟩
theorem Rg.app {x : Nat} (R : Rg Wb B l fl X (some x) none i1 i2) (L : SlAt 1 (LstP B) B Wb v l) (hlen : l.length ≤ 900) (hB : B ≤ Wb.heap.size) (hi : i1 = none → i2 = none) :
    ∃ v5 W6, (Builtin.append_ #[24, 24] 24 #[.slice (some ⟨x, 0, none⟩) 0 0, v]).run Tryd.prog X = .ok v5 W6 ∧ Rg Wb B l fl W6 (some x) (some v5) i1 i2 := by
  obtain ⟨i0, hi0, hz0, hz1, hz2⟩ := info_parts info_ints
  obtain ⟨hx1, hx2⟩ := R.hE x rfl rfl
  have LX : SlAt 1 (LstP B) B X v l := lsts_keep (Nat.le_refl _) (fun j hj => R.bel.block j (by omega)) L
  obtain ⟨v5, W6, r1, r2, r3, r4, r5⟩ := app_first (P := LstP B) (ty := 24) Tryd.underlying24 hi0 hz0 hz1 hz2 rfl (by decide) LX (lst_len X) (lst_one X) hlen (by decide) hx2
  have hne1 : ∀ y, i1 = some y → y ≠ x := fun y h e => by
    have := (R.h1 y h).2
    rw [e, hx2] at this
    simp at this
  have hne2 : ∀ y, i2 = some y → y ≠ x := fun y h e => by
    cases hq : i1 with
    | none => rw [hi hq] at h; cases h
    | some z =>
      have := (R.h2 z y hq h).2
      rw [e, hx2] at this
      simp at this
  have hl1 : ∀ y, i1 = some y → y < X.heap.size := fun y h => lt_of_block (R.h1 y h).2
  have hl2 : ∀ y, i2 = some y → y < X.heap.size := fun y h => by
    cases hq : i1 with
    | none => rw [hi hq] at h; cases h
    | some z => exact lt_of_block (R.h2 z y hq h).2
  refine ⟨v5, W6, r1, R.bel.trans ⟨r3.os, r3.tape, r3.output, r3.size, fun j hj => r3.block j (by omega)⟩, fun _ _ h => (by cases h), fun v h => ?_, fun y h => ⟨(R.h1 y h).1, (r5 y (hl1 y h) (hne1 y h)).trans (R.h1 y h).2⟩, fun z y h g => ⟨(R.h2 z y h g).1, (r5 y (hl2 y g) (hne2 y g)).trans (R.h2 z y h g).2⟩⟩
  cases h
  refine ⟨?_, fun g hg => ?_⟩
  · obtain ⟨css, d1, d2, d3, d4⟩ := r2
    refine ⟨css, ⟨d1.1, d1.2.imp id (fun ⟨g, cap, cur, a, b, c⟩ => ⟨g, cap, cur, a, Nat.le_trans hx1 b, c⟩)⟩, d2, d3, fun j y hy => ?_⟩
    obtain ⟨c, e1, e2⟩ := d4 j y hy
    exact ⟨c, e1, lst_keep _ _ _ _ _ (Nat.le_refl _) (fun j hj => (R.bel.block j (by omega)).symm) e2⟩
  · rcases r4 with h4 | h4
    · rw [h4] at hg
      cases hg
      exact ⟨fun e => hne1 _ e rfl, fun e => hne2 _ e rfl⟩
    · rw [h4] at hg
      cases hg
      exact ⟨fun e => Nat.lt_irrefl _ (hl1 _ e), fun e => Nat.lt_irrefl _ (hl2 _ e)⟩
theorem Rg.fin {x y : Nat} {u : Value} (R : Rg Wb B l fl X e0 (some u) (some x) (some y)) (hlen : l.length ≤ 900) (hB : B ≤ Wb.heap.size) (hb : b < Wb.heap.size) (hf1 : -9223372036854775808 ≤ fl) (hf2 : fl ≤ 9223372036854775807) :
    ∃ a8 c8 W8, (Builtin.append_ #[24, 24] 24 #[u, .slice (some ⟨y, 0, none⟩) 1 1]).run Tryd.prog X = .ok (.slice a8 (l.length + 1) c8) W8 ∧ Below Wb.heap.size Wb W8 ∧ Fut 1 LstP b B Wb W8 (.slice a8 (l.length + 1) c8) (l ++ [[fl]]) := by
  obtain ⟨i0, hi0, hz0, hz1, hz2⟩ := info_parts info_ints
  obtain ⟨f1, f2⟩ := R.h1 x rfl
  obtain ⟨f3, f4⟩ := R.h2 x y rfl rfl
  obtain ⟨f5, f6⟩ := R.h5 u rfl
  have ho : ∀ g, u.ownBlock = some g → Wb.heap.size ≤ g ∧ g < X.heap.size := by
    obtain ⟨css, d1, _⟩ := f5
    exact own_ge d1
  obtain ⟨a8, c8, W8, q1, q2, q3, q4⟩ := app_next (ty := 24) Tryd.underlying24 hi0 hz0 hz1 hz2 rfl (by decide) f5 hlen (by decide) R.bel.size f4 rfl (by intro u hu; simp at hu; subst hu; rfl) [fl]
  have hs := R.bel.size
  have hs8 : X.heap.size ≤ W8.heap.size := q3.size
  have hx8 : W8.heap[x]? = some (.cells #[.int .i64 fl] 3 (0, 0)) := (q3.block x (lt_of_block f2) (fun e => (f6 x e.symm).1 rfl)).trans f2
  refine ⟨a8, c8, W8, q1, R.bel.trans ⟨q3.os, q3.tape, q3.output, q3.size, fun j hj => q3.block j (by omega) (fun e => by have := (ho j e.symm).1; omega)⟩, fun W g1 g2 g3 => ?_⟩
  refine q2.sl (fun g hg => ?_) (fun c z hc => ?_) (by simp; omega)
  · obtain ⟨css, d1, _⟩ := q2
    have := own_ge d1 g hg
    exact g2 g (by omega) this.2
  · rcases hc with hc | ⟨rfl, rfl⟩
    · exact lst_keep _ _ _ _ _ (by omega) g3 hc
    · exact ⟨_, rfl, ints_one ((g2 x (by omega) (lt_of_block hx8)).trans hx8) hf1 hf2⟩
end
end Go.Proofs.YtaeheikhpepipaaDoor

namespace Go.Proofs.YtaeheikhpepipaaDoor
open Go.RowKit
section
variable {B : Nat} {w : World} {p : Pg}
set_option maxRecDepth 100000 in
set_option maxHeartbeats 1000000 in
theorem adds_out {v1 v2 v3 v4 : Value} (P : PgAt B w v1 v2 v3 v4 p) (hB : B ≤ w.heap.size) (hT : Tb w) (hb0 : 0 < B) (hc : (checkP p).2.2 ≠ 0 ∨ 900 < p.ty.length ∨ 900 < p.fu.length ∨ 900 < p.st.length ∨ 900 < p.ta.length) : Calls Tryd.prog 6 #[.agg #[v1, v2, v3, v4]] w fun e w' => e = .returned (.bool true) ∧ Below w.heap.size w w' := by
  obtain ⟨a1, d1, hv1⟩ := sl_form P.ty
  obtain ⟨a2, d2, hv2⟩ := sl_form P.fu
  obtain ⟨a3, d3, hv3⟩ := sl_form P.ta
  obtain ⟨a4, d4, hv4⟩ := sl_form P.st
  subst hv1 hv2 hv3 hv4
  obtain ⟨W1, hW1⟩ : ∃ W1, w.alloc (.cells #[.slice a1 p.ty.length d1, .slice a2 p.fu.length d2, .slice a3 p.ta.length d3, .slice a4 p.st.length d4] 27) = W1 := ⟨_, rfl⟩
  have b1 : Below w.heap.size w W1 := by rw [← hW1]; exact (Below.refl _ _).alloc (Nat.le_refl _) _
  have e1 : W1.heap[w.heap.size]? = some (.cells #[.slice a1 p.ty.length d1, .slice a2 p.fu.length d2, .slice a3 p.ta.length d3, .slice a4 p.st.length d4] 27 (0, 0)) := by rw [← hW1]; exact heap_new _ _ rfl
  have HBX := hide (show ∀ W : World, Below W1.heap.size W1 W → W.cell? ⟨w.heap.size, 0, none⟩ = some (.slice a1 p.ty.length d1) ∧ W.cell? ⟨w.heap.size, 1, none⟩ = some (.slice a2 p.fu.length d2) ∧ W.cell? ⟨w.heap.size, 2, none⟩ = some (.slice a3 p.ta.length d3) ∧ W.cell? ⟨w.heap.size, 3, none⟩ = some (.slice a4 p.st.length d4) from fun W h => by
    have h1 := (h.block _ (lt_of_block e1)).trans e1
    exact ⟨cell_of h1 rfl, cell_of h1 rfl, cell_of h1 rfl, cell_of h1 rfl⟩)
  have HPG := hide (show ∀ W : World, Below W1.heap.size W1 W → PgAt B W (.slice a1 p.ty.length d1) (.slice a2 p.fu.length d2) (.slice a3 p.ta.length d3) (.slice a4 p.st.length d4) p ∧ B ≤ W.heap.size ∧ Tb W from fun W h => ⟨P.keep (Nat.le_refl _) (fun j hj => (bel_tr b1 h).block j (Nat.lt_of_lt_of_le hj hB)), Nat.le_trans hB (bel_tr b1 h).size, hT.keep ((bel_tr b1 h).block 0 (Nat.lt_of_lt_of_le hb0 hB))⟩)
  have HB1 := hide b1
  obtain ⟨k0, k1, k2, k3⟩ := HBX.out W1 (Below.refl _ _)
  have hl0 := lt_of_block e1
  have HCK := hide (check_any (HPG.out W1 (Below.refl _ _)).1 (HPG.out W1 (Below.refl _ _)).2.1 (HPG.out W1 (Below.refl _ _)).2.2 hb0)
  unfold CkO at HCK
  generalize checkP p = ck at *
  obtain ⟨fx, ax, er⟩ := ck
  dsimp only at hc HCK
  have HC := hide hc
  clear P hB hT hb0 b1 e1 hc
  go_enter Tryd.func6, Tryd.ntmps6
  go_wp2_with fail
  refine HCK.out.mono ?_
  rintro e w2 ⟨rfl, hb2⟩
  have HB2 := hide hb2
  clear hb2 k0 k1 k2 k3 hW1
  have HAW := hide (awake_any w2 (HPG.out w2 HB2.out).2.2)
  go_wp2_with fail
  refine HAW.out.mono ?_
  rintro e w3 ⟨rfl, hb3⟩
  have HB3 := hide (bel_tr HB2.out hb3)
  clear hb3
  obtain ⟨k0, k1, k2, k3⟩ := HBX.out w3 HB3.out
  have hl3 : w.heap.size < w3.heap.size := Nat.lt_of_lt_of_le hl0 HB3.out.size
  have HAX := hide (awake_any w3 (HPG.out w3 HB3.out).2.2)
  by_cases g0 : er = 0
  · subst g0
    by_cases g1 : 900 < p.ty.length
    · have s1 : decide ((900 : Int) < (p.ty.length : Int)) = true := by simp; omega
      have t1 : decide (900 < p.ty.length) = true := by simp; omega
      go_wp2_with fail
      refine HAX.out.mono ?_
      rintro e w4 ⟨rfl, hb4⟩
      have HB4 := hide (bel_tr (bel_tr HB1.out HB3.out) hb4)
      clear hb4
      go_wp2_with fail
      go_ret
      exact ⟨rfl, HB4.out⟩
    · have s1 : decide ((900 : Int) < (p.ty.length : Int)) = false := by simp; omega
      have t1 : decide (900 < p.ty.length) = false := by simp; omega
      by_cases g2 : 900 < p.fu.length
      · have s2 : decide ((900 : Int) < (p.fu.length : Int)) = true := by simp; omega
        have t2 : decide (900 < p.fu.length) = true := by simp; omega
        clear g1
        go_wp2_with fail
        refine HAX.out.mono ?_
        rintro e w4 ⟨rfl, hb4⟩
        have HB4 := hide (bel_tr (bel_tr HB1.out HB3.out) hb4)
        clear hb4
        go_wp2_with fail
        go_ret
        exact ⟨rfl, HB4.out⟩
      · have s2 : decide ((900 : Int) < (p.fu.length : Int)) = false := by simp; omega
        have t2 : decide (900 < p.fu.length) = false := by simp; omega
        by_cases g3 : 900 < p.st.length
        · have s3 : decide ((900 : Int) < (p.st.length : Int)) = true := by simp; omega
          have t3 : decide (900 < p.st.length) = true := by simp; omega
          clear g1 g2
          go_wp2_with fail
          refine HAX.out.mono ?_
          rintro e w4 ⟨rfl, hb4⟩
          have HB4 := hide (bel_tr (bel_tr HB1.out HB3.out) hb4)
          clear hb4
          go_wp2_with fail
          go_ret
          exact ⟨rfl, HB4.out⟩
        · have s3 : decide ((900 : Int) < (p.st.length : Int)) = false := by simp; omega
          have t3 : decide (900 < p.st.length) = false := by simp; omega
          have g4 : 900 < p.ta.length := by
            rcases HC.out with h | h | h | h | h
            · exact absurd rfl h
            · exact absurd h g1
            · exact absurd h g2
            · exact absurd h g3
            · exact h
          have s4 : decide ((900 : Int) < (p.ta.length : Int)) = true := by simp; omega
          have t4 : decide (900 < p.ta.length) = true := by simp; omega
          clear g1 g2 g3
          go_wp2_with fail
          refine HAX.out.mono ?_
          rintro e w4 ⟨rfl, hb4⟩
          have HB4 := hide (bel_tr (bel_tr HB1.out HB3.out) hb4)
          clear hb4
          go_wp2_with fail
          go_ret
          exact ⟨rfl, HB4.out⟩
  · go_wp2_with fail
    refine HAX.out.mono ?_
    rintro e w4 ⟨rfl, hb4⟩
    have HB4 := hide (bel_tr (bel_tr HB1.out HB3.out) hb4)
    clear hb4
    go_wp2_with fail
    go_ret
    exact ⟨rfl, HB4.out⟩
end
end Go.Proofs.YtaeheikhpepipaaDoor
