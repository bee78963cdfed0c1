/- parted; parameters. -/
import Derived.Test.YtbejkphekfbfnaaGreatSndA
namespace Go.Proofs.YtbejkphekfbfnaaGreat
open Go.RowKit
attribute [local go_sem ↓] Go.wp_at_zero Go.wp_at_succ

theorem KL.split {w : World} {S : Nat → Prop} : ∀ {ts us : List Tr} {a : List Value}, KL w S (ts ++ us) a → ∃ b c, a = b ++ c ∧ KL w S ts b ∧ KL w S us c
  | [], us, a, h => ⟨[], a, rfl, rfl, h⟩
  | t :: ts, us, a, h => by
    simp only [List.cons_append, KL] at h
    obtain ⟨sl, r, rfl, h2, h3⟩ := h
    obtain ⟨b, c, rfl, h4, h5⟩ := KL.split h3
    exact ⟨sl :: b, c, rfl, by simp only [KL]; exact ⟨sl, b, rfl, h2, h4⟩, h5⟩
/-- The first and the last ones of a list that lies. -/
theorem Lst.parts {w : World} {S : Nat → Prop} {ts us : List Tr} {sls : List Value} {g o : Nat} (hg : S g) (hc : ∀ (j : Nat) u, (cellsOf (ts ++ us) sls)[j]? = some u → w.cell? ⟨g, o + j, none⟩ = some u) (hk : KL w S (ts ++ us) sls) (c1 c2 : Nat) (h1 : ts.length ≤ c1) (h2 : us.length ≤ c2) :
    Lst w S ts (.slice (some ⟨g, o, none⟩) ts.length c1) ∧ Lst w S us (.slice (some ⟨g, o + ts.length * 4, none⟩) us.length c2) := by
  obtain ⟨b, c, rfl, k1, k2⟩ := hk.split
  rw [cellsOf_append k1.length] at hc
  have hl := cellsOf_length k1.length
  refine ⟨⟨b, .inr ⟨g, o, c1, rfl, h1, hg, fun j u hj => hc j u ?_⟩, k1⟩, ⟨c, .inr ⟨g, o + ts.length * 4, c2, rfl, h2, hg, fun j u hj => ?_⟩, k2⟩⟩
  · rw [List.getElem?_append_left]
    · exact hj
    · rcases Nat.lt_or_ge j (cellsOf ts b).length with h | h
      · exact h
      · rw [List.getElem?_eq_none h] at hj; cases hj
  · rw [Nat.add_assoc]
    refine hc _ u ?_
    rw [← hl, List.getElem?_append_right (by omega)]
    rw [show (cellsOf ts b).length + j - (cellsOf ts b).length = j by omega]; exact hj
theorem Lst.nil {w : World} {S : Nat → Prop} (ao : Option Addr) (c : Nat) : Lst w S [] (.slice ao 0 c) := ⟨[], .inl ⟨rfl, ao, c, rfl⟩, by simp [KL]⟩

set_option maxRecDepth 20000 in
set_option maxHeartbeats 1600000 in
theorem partedL {g1 g2 n : Nat} {p q : Tr → Bool} (he1 : Enters Tryz.prog g1) (he2 : Enters Tryz.prog g2) (T1 : Tst g1 n p) (T2 : Tst g2 n q) {ts : List Tr} {sl : Value} {S : Nat → Prop} {w : World} (hG : Gl w) (hS : ∀ b, S b → b < w.heap.size) (hF : ∀ t ∈ ts, Fit n t) (hn : ts.length ≤ 20000) (hL : Lst w S ts sl) (count : Int) :
    Calls Tryz.prog 139 #[sl, .int .i64 count, .func (.func g1) #[] #[], .func (.func g2) #[] #[]] w fun e w' => e = .returned (.bool (partedB ts count p q)) ∧ Below w.heap.size w w' := by
  have HR : Hid (partedB ts count p q = (decide (0 ≤ count) && (decide (count ≤ ts.length) && ((ts.take count.toNat).all p && (ts.drop count.toNat).all q)))) := rfl
  by_cases h0 : 0 ≤ count
  · by_cases h1 : count ≤ ts.length
    · obtain ⟨k, rfl⟩ : ∃ k : Nat, count = k := ⟨count.toNat, by omega⟩
      have hk : k ≤ ts.length := by omega
      have HX : Hid (partedB ts k p q = ((ts.take k).all p && (ts.drop k).all q)) := HR.out.trans (by simp [hk])
      have hl1 : (ts.take k).length = k := by simp [hk]
      have hl2 : (ts.drop k).length = ts.length - k := by simp
      have hF1 : ∀ t ∈ ts.take k, Fit n t := fun t h => hF t (List.mem_of_mem_take h)
      have hF2 : ∀ t ∈ ts.drop k, Fit n t := fun t h => hF t (List.mem_of_mem_drop h)
      clear HR h0 h1
      have hL' := hL
      obtain ⟨sls, hr, hkl⟩ := hL'
      rcases hr with ⟨e0, ao, cap, rfl⟩ | ⟨gb, o, cap, rfl, hcp, hg, hc⟩
      · have ek : k = 0 := by omega
        subst ek
        have hu : ts = [] := List.eq_nil_of_length_eq_zero e0
        subst hu
        have HX : Hid (partedB [] 0 p q = true) := rfl
        have c1 := every_nil (.func (.func g1) #[] #[]) ao cap w
        have c2 := every_nil (.func (.func g2) #[] #[]) ao cap w
        go_enter Tryz.func139, Tryz.ntmps139
        go_wp2_with fail
        refine c1.mono ?_
        rintro e w1 ⟨rfl, rfl⟩
        go_wp2_with fail
        refine c2.mono ?_
        rintro e w2 ⟨rfl, rfl⟩
        go_wp2
        go_ret
        exact ⟨by simp [HX.out], Below.refl _ _⟩
      · obtain ⟨L1, L2⟩ := Lst.parts (w := w) (ts := ts.take k) (us := ts.drop k) hg (by rwa [List.take_append_drop]) (by rwa [List.take_append_drop]) cap (cap - k) (by omega) (by omega)
        have c1 := everyL he1 T1 hG hS hF1 (by omega) L1
        rw [hl1] at c1 L2
        clear hc hkl hL
        by_cases hck : k < cap
        · have hck0 : (cap - k == 0) = false := by simp; omega
          go_enter Tryz.func139, Tryz.ntmps139
          go_wp2_with fail
          refine c1.mono ?_
          rintro e w1 ⟨rfl, hb1⟩
          have z1 := hb1.size
          clear c1
          cases hp : (ts.take k).all p with
          | false =>
            have HY : Hid (partedB ts k p q = false) := HX.out.trans (by rw [hp]; rfl)
            clear hp
            go_wp2
            go_ret
            exact ⟨by simp [HY.out], hb1⟩
          | true =>
            have HY : Hid (partedB ts k p q = (ts.drop k).all q) := HX.out.trans (by rw [hp]; rfl)
            have c2 := everyL he2 T2 (hG.later hb1) (fun b hb => Nat.lt_of_lt_of_le (hS b hb) hb1.size) hF2 (by omega) (L2.fr (fun b hb => hb1.block b (hS b hb)) (fun _ h => h))
            rw [hl2] at c2
            clear hp L2
            go_wp2_with fail
            refine c2.mono ?_
            rintro e w2 ⟨rfl, hb2⟩
            go_wp2
            go_ret
            exact ⟨by simp [HY.out], hb1.trans (hb2.mono z1)⟩
        · obtain rfl : cap = ts.length := by omega
          obtain rfl : k = ts.length := by omega
          go_enter Tryz.func139, Tryz.ntmps139
          go_wp2_with fail
          refine c1.mono ?_
          rintro e w1 ⟨rfl, hb1⟩
          have z1 := hb1.size
          clear c1
          cases hp : (ts.take ts.length).all p with
          | false =>
            have HY : Hid (partedB ts ts.length p q = false) := HX.out.trans (by rw [hp]; rfl)
            clear hp
            go_wp2
            go_ret
            exact ⟨by simp [HY.out], hb1⟩
          | true =>
            have HY : Hid (partedB ts ts.length p q = true) := HX.out.trans (by rw [hp]; simp)
            have c2 := every_nil (.func (.func g2) #[] #[]) (some ⟨gb, o, none⟩) 0 w1
            clear hp L2
            go_wp2_with fail
            refine c2.mono ?_
            rintro e w2 ⟨rfl, rfl⟩
            go_wp2
            go_ret
            exact ⟨by simp [HY.out], hb1⟩
    · have HX : Hid (partedB ts count p q = false) := HR.out.trans (by simp [h1])
      obtain ⟨ao, cap, rfl⟩ := hL.slice
      clear HR
      go_enter Tryz.func139, Tryz.ntmps139
      go_wp2
      go_ret
      exact ⟨by simp [HX.out], Below.refl _ _⟩
  · have HX : Hid (partedB ts count p q = false) := HR.out.trans (by simp [h0])
    obtain ⟨ao, cap, rfl⟩ := hL.slice
    clear HR
    go_enter Tryz.func139, Tryz.ntmps139
    go_wp2
    go_ret
    exact ⟨by simp [HX.out], Below.refl _ _⟩
end Go.Proofs.YtbejkphekfbfnaaGreat
