/- Tests of assignments; the one kid of a list. -/
import Derived.Test.YtbejkphekfbfnaaGreatSndD
namespace Go.Proofs.YtbejkphekfbfnaaGreat
open Go.RowKit
attribute [local go_sem ↓] Go.wp_at_zero Go.wp_at_succ

theorem Lst.kid0 {w : World} {S : Nat → Prop} {ks : List Tr} {ao : Option Addr} {n c : Nat} {a : Tr} (hL : Lst w S ks (.slice ao n c)) (ha : ks[0]? = some a) (hS : ∀ b, S b → b < w.heap.size) :
    ∃ g o a0 n0 q0, ao = some ⟨g, o, none⟩ ∧ w.cell? ⟨g, o, none⟩ = some (.int .i64 a.kind) ∧ w.cell? ⟨g, o + 1, none⟩ = some (.string ⟨a.text.toArray⟩) ∧ w.cell? ⟨g, o + 2, none⟩ = some (.int .i64 a.num) ∧ w.cell? ⟨g, o + 3, none⟩ = some (.slice a0 n0 q0) ∧ g < w.heap.size ∧ KT w S a (.slice a0 n0 q0) := by
  obtain ⟨sls, h1, h2⟩ := hL
  rcases h1 with ⟨h0, ao', cap, e⟩ | ⟨g, o, cap, e, _, hg, hc⟩
  · rw [List.eq_nil_of_length_eq_zero h0] at ha; cases ha
  · injection e with e1 e2 e3
    have hl : 0 < ks.length := by
      rcases Nat.lt_or_ge 0 ks.length with h | h
      · exact h
      · rw [List.getElem?_eq_none h] at ha; cases ha
    obtain ⟨sl, hs⟩ : ∃ sl, sls[0]? = some sl := ⟨_, List.getElem?_eq_getElem (by rw [h2.length]; exact hl)⟩
    have hk := h2.get ha hs
    obtain ⟨a0, n0, q0, rfl⟩ := hk.slice
    obtain ⟨q0', q1, q2, q3⟩ := cellsOf_get ha hs
    exact ⟨g, o, a0, n0, q0, e1, hc _ _ q0', hc _ _ q1, hc _ _ q2, hc _ _ q3, hS g hg, hk⟩
theorem Lst.kid1 {w : World} {S : Nat → Prop} {ks : List Tr} {ao : Option Addr} {n c : Nat} (hL : Lst w S ks (.slice ao n c)) (hl : ks.length = 1) (hS : ∀ b, S b → b < w.heap.size) :
    ∃ a g o a0 n0 q0, ks = [a] ∧ ao = some ⟨g, o, none⟩ ∧ w.cell? ⟨g, o + 0, none⟩ = some (.int .i64 a.kind) ∧ w.cell? ⟨g, o + 1, none⟩ = some (.string ⟨a.text.toArray⟩) ∧ w.cell? ⟨g, o + 2, none⟩ = some (.int .i64 a.num) ∧ w.cell? ⟨g, o + 3, none⟩ = some (.slice a0 n0 q0) ∧ g < w.heap.size ∧ KT w S a (.slice a0 n0 q0) := by
  match ks, hl with
  | [a], _ =>
    obtain ⟨g, o, a0, n0, q0, h⟩ := hL.kid0 (a := a) rfl hS
    exact ⟨a, g, o, a0, n0, q0, rfl, h⟩

set_option maxRecDepth 20000 in
set_option maxHeartbeats 4000000 in
theorem asg_any {g n : Nat} {p : Tr → Bool} {r : Q → Tr → Bool} (he : Enters Tryz.prog g) (T1 : Tst g n p) (hExp : Tst 150 n (r .exp)) (k : Int) (s : List UInt8) (m : Int) (ks : List Tr) (ao : Option Addr) (c : Nat) (S : Nat → Prop) (w : World) (hG : Gl w) (hS : ∀ b, S b → b < w.heap.size) (hF : Fit (n + 1) (.mk k s m ks)) (hk : KT w S (.mk k s m ks) (.slice ao ks.length c)) :
    Calls Tryz.prog 151 #[.agg #[.int .i64 k, .string ⟨s.toArray⟩, .int .i64 m, .slice ao ks.length c], .func (.func g) #[] #[]] w fun e w' => e = .returned (.bool (asgB r p (.mk k s m ks))) ∧ Below w.heap.size w w' := by
  obtain ⟨hF1, hF2, hF3⟩ := hF
  change ∀ t ∈ ks, Fit _ t at hF3
  change ks.length ≤ 20000 at hF1
  have hL := Lst.of hk
  have HR : Hid (asgB r p (.mk k s m ks) = (numberedT (.mk k s m ks) && (decide (0 < m) && (decide (m < ks.length) && ((ks.take m.toNat).all p && ks.all (r .exp)))))) := rfl
  have hX0 := Hx.start (w := w) (c0 := .int .i64 k) (c1 := .string ⟨s.toArray⟩) (c2 := .int .i64 m) (c3 := .slice ao ks.length c)
  have c1 := numberedW hX0.out (.mk k s m ks) ao ks.length c
  by_cases hm : 0 < m
  · by_cases hm2 : m < ks.length
    · obtain ⟨j, rfl⟩ : ∃ j : Nat, m = j := ⟨m.toNat, by omega⟩
      have hj : j ≤ ks.length := by omega
      have hj1 : 0 < j := by omega
      have hj2 : j < ks.length := by omega
      have HR' : Hid (asgB r p (.mk k s j ks) = (numberedT (.mk k s j ks) && ((ks.take j).all p && ks.all (r .exp)))) := HR.out.trans (by simp [hj1, hj2])
      have hl1 : (ks.take j).length = j := by simp [hj]
      have hF4 : ∀ t ∈ ks.take j, Fit n t := fun t h => hF3 t (List.mem_of_mem_take h)
      have hL' := hL
      obtain ⟨sls, hr, hkl⟩ := hL'
      clear HR hm hm2
      rcases hr with ⟨e0, ao, cap, e⟩ | ⟨gb, o, cap, e, hcp, hg, hc⟩
      · omega
      · injection e with e1 e2 e3
        subst e1 e3
        obtain ⟨L1, _⟩ := Lst.parts (w := w) (ts := ks.take j) (us := ks.drop j) hg (by rwa [List.take_append_drop]) (by rwa [List.take_append_drop]) c (c - j) (by omega) (by simp; omega)
        clear hc hkl e2
        go_enter Tryz.func151, Tryz.ntmps151
        go_wp2_with fail
        refine c1.mono ?_
        rintro e w1 ⟨rfl, hb1⟩
        have hX1 := hX0.next hb1
        clear c1
        obtain ⟨x0, x1, x2, x3⟩ := hX1.cells
        cases h1 : numberedT (.mk k s j ks) with
        | false =>
          have HX : Hid (asgB r p (.mk k s j ks) = false) := HR'.out.trans (by rw [h1]; rfl)
          clear h1
          go_wp2
          go_ret
          exact ⟨congrArg (fun b => Ending.returned (Value.bool b)) HX.out.symm, hX1.out⟩
        | true =>
          have HR1 : Hid (asgB r p (.mk k s j ks) = ((ks.take j).all p && ks.all (r .exp))) := HR'.out.trans (by rw [h1]; rfl)
          clear h1
          have c2 := everyW he T1 hG hS hF4 (by omega) L1 hX1.out
          rw [hl1] at c2
          go_wp2_with fail
          refine c2.mono ?_
          rintro e w2 ⟨rfl, hb2⟩
          have hX2 := hX1.next hb2
          clear c2 x0 x1 x2 x3
          obtain ⟨x0, x1, x2, x3⟩ := hX2.cells
          cases h2 : (ks.take j).all p with
          | false =>
            have HX : Hid (asgB r p (.mk k s j ks) = false) := HR1.out.trans (by rw [h2]; rfl)
            clear h2
            go_wp2
            go_ret
            exact ⟨congrArg (fun b => Ending.returned (Value.bool b)) HX.out.symm, hX2.out⟩
          | true =>
            have HX : Hid (asgB r p (.mk k s j ks) = ks.all (r .exp)) := HR1.out.trans (by rw [h2]; rfl)
            clear h2
            have c3 := everyW ent_exp hExp hG hS hF3 hF1 hL hX2.out
            go_wp2_with fail
            refine c3.mono ?_
            rintro e w3 ⟨rfl, hb3⟩
            have hX3 := hX2.next hb3
            clear c3
            go_wp2
            go_ret
            exact ⟨congrArg (fun b => Ending.returned (Value.bool b)) HX.out.symm, hX3.out⟩
    · have HX : Hid (asgB r p (.mk k s m ks) = false) := HR.out.trans (by simp [hm2])
      clear HR
      go_enter Tryz.func151, Tryz.ntmps151
      go_wp2_with fail
      refine c1.mono ?_
      rintro e w1 ⟨rfl, hb1⟩
      have hX1 := hX0.next hb1
      clear c1
      obtain ⟨x0, x1, x2, x3⟩ := hX1.cells
      cases h1 : numberedT (.mk k s m ks) with
      | false =>
        clear h1
        go_wp2
        go_ret
        exact ⟨congrArg (fun b => Ending.returned (Value.bool b)) HX.out.symm, hX1.out⟩
      | true =>
        clear h1
        go_wp2
        go_ret
        exact ⟨congrArg (fun b => Ending.returned (Value.bool b)) HX.out.symm, hX1.out⟩
  · have HX : Hid (asgB r p (.mk k s m ks) = false) := HR.out.trans (by simp [hm])
    clear HR
    go_enter Tryz.func151, Tryz.ntmps151
    go_wp2_with fail
    refine c1.mono ?_
    rintro e w1 ⟨rfl, hb1⟩
    have hX1 := hX0.next hb1
    clear c1
    obtain ⟨x0, x1, x2, x3⟩ := hX1.cells
    cases h1 : numberedT (.mk k s m ks) with
    | false =>
      clear h1
      go_wp2
      go_ret
      exact ⟨congrArg (fun b => Ending.returned (Value.bool b)) HX.out.symm, hX1.out⟩
    | true =>
      clear h1
      go_wp2
      go_ret
      exact ⟨congrArg (fun b => Ending.returned (Value.bool b)) HX.out.symm, hX1.out⟩
theorem asgW {g n : Nat} {p : Tr → Bool} {r : Q → Tr → Bool} {k : Int} {s : List UInt8} {m : Int} {ks : List Tr} {ao : Option Addr} {c : Nat} {S : Nat → Prop} {w W : World} (he : Enters Tryz.prog g) (T1 : Tst g n p) (hExp : Tst 150 n (r .exp)) (hG : Gl w) (hS : ∀ b, S b → b < w.heap.size) (hF : Fit (n + 1) (.mk k s m ks)) (hk : KT w S (.mk k s m ks) (.slice ao ks.length c)) (hB : Below w.heap.size w W) :
    Calls Tryz.prog 151 #[.agg #[.int .i64 k, .string ⟨s.toArray⟩, .int .i64 m, .slice ao ks.length c], .func (.func g) #[] #[]] W fun e w' => e = .returned (.bool (asgB r p (.mk k s m ks))) ∧ Below W.heap.size W w' :=
  asg_any he T1 hExp k s m ks ao c S W (hG.later hB) (fun b hb => Nat.lt_of_lt_of_le (hS b hb) hB.size) hF (hk.fr (fun b hb => hB.block b (hS b hb)) (fun _ h => h))
end Go.Proofs.YtbejkphekfbfnaaGreat
