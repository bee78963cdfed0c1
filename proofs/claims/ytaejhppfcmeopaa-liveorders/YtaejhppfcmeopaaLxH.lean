/- around: one block, and those to which there are ways from block 0 that do not go through it. -/
import Derived.Test.YtaejhppfcmeopaaLxG
namespace Go.Proofs.Ytaejhppfcmeopaa
open Go.RowKit
section
variable {w w' : World}
/-- What around's closure has at hand. -/
structure Na (w : World) (p1 p2 p3 gb n cap : Nat) (P : Nat → Nat) : Prop where
  g : w.heap[p2]? = some (.cells #[.slice (some ⟨gb, 0, none⟩) n cap] 58 (0, 0))
  gr : GrA w gb n P
  f : w.heap[p3]? = some (.cells #[.func (.func 54) #[] #[pp p1, pp p2, pp p3]] 70 (0, 0))
  ap : p2 ≠ p1 ∧ p3 ≠ p1 ∧ gb ≠ p1
theorem Na.keep {p1 p2 p3 gb n cap : Nat} {P : Nat → Nat} (N : Na w p1 p2 p3 gb n cap P) (h : Kp (fun j => j = p1) w w') : Na w' p1 p2 p3 gb n cap P :=
  ⟨(h.block p2 (lt_of_block N.g) N.ap.1).trans N.g, N.gr.kp h N.ap.2.2, (h.block p3 (lt_of_block N.f) N.ap.2.1).trans N.f, N.ap⟩
variable {p1 p2 p3 gb n cap : Nat} {P : Nat → Nat}
set_option maxHeartbeats 4000000 in
set_option maxRecDepth 20000 in
theorem around1_any (hP : ∀ t, Sm (P t)) (hPn : ∀ t i, (P t).testBit i = true → i < n) (hn : n ≤ 512) : ∀ (k x s : Nat) (w : World), un s < k → x < n → Sm s → Na w p1 p2 p3 gb n cap P → BoxS w p1 s →
    Calls Try.prog 54 #[.int .i64 x, pp p1, pp p2, pp p3] w fun e w' => (∃ v, e = .returned v) ∧ BoxS w' p1 (arF P k x s) ∧ Kp (fun j => j = p1) w w'
  | 0, _, _, _, hu, _, _, _, _ => absurd hu (Nat.not_lt_zero _)
  | k + 1, x, s, w, hu, hx, sa, N, B1 => by
    have hx5 : x < 512 := by omega
    have hc := has_any (w := w) s x hx5
    obtain ⟨a0, a1, a2, a3, a4, a5, a6, a7⟩ := B1.all
    have l1 := B1.lt
    cases h : s.testBit x with
    | true =>
      rw [h] at hc
      rw [arF_in h]
      have HB1 := hide B1
      clear hu sa N B1 h
      go_enter Try.func54, Try.ntmps54
      go_wp2_with (go_at_call 41; refine hc.mono ?_; rintro e w2 ⟨rfl, hb⟩)
      go_returns
      exact ⟨⟨_, rfl⟩, HB1.out.keep (hb.block _ HB1.out.lt), Kp.of_below hb⟩
    | false =>
      rw [h] at hc
      have HI := hide (fun (y s' : Nat) (w' : World) (h1 : un s' < k) (h2 : y < n) => around1_any hP hPn hn k y s' w' h1 h2)
      have HF := hide (arF_new (P := P) (k := k) h)
      have HB1 := hide B1
      have HN := hide N
      have HU := hide (show un (s ||| 2 ^ x) < k from Nat.lt_of_lt_of_le (un_add hx5 h) (Nat.le_of_lt_succ hu))
      have HS := hide (sa.add hx5)
      clear hu N B1 h sa
      go_enter Try.func54, Try.ntmps54
      go_upto_region 2 with (first
        | (go_at_call 41; refine hc.mono ?_; rintro e w2 ⟨rfl, hb⟩; clear hc; have hb1 := HB1.out.keep (hb.block _ HB1.out.lt); have hadd := add_box hb1 hx5)
        | (go_at_call 42; refine hadd.mono ?_; rintro e w3 ⟨⟨v3, rfl⟩, hb1, hk3⟩; clear hadd))
      have HK3 := hide ((Kp.of_below hb).trans hk3 : Kp (fun j => j = p1) w w3)
      have HN3 := hide (HN.out.keep HK3.out)
      obtain ⟨m1, hm1⟩ : ∃ m1, s ||| 2 ^ x = m1 := ⟨_, rfl⟩
      rw [hm1] at HF HU HS hb1
      have HB3 := hide hb1
      clear hb hb1 hk3 hm1 a0 a1 a2 a3 a4 a5 a6 a7 l1
      obtain ⟨a0, a1, a2, a3, a4, a5, a6, a7⟩ := HB3.out.all
      have l1 := HB3.out.lt
      obtain ⟨b0, b1, b2, b3, b4, b5, b6, b7⟩ := SetAt.all (HN3.out.gr.gr x hx)
      have lg := HN3.out.gr.gl
      have cg := cell_of (o := 0) HN3.out.g rfl
      have lp2 := lt_of_block HN3.out.g
      have cf := cell_of (o := 0) HN3.out.f rfl
      have lp3 := lt_of_block HN3.out.f
      have bx : (x : Int) < (n : Int) := by omega
      obtain ⟨m, hm⟩ : ∃ m, less (P x) m1 = m := ⟨_, rfl⟩
      have hless := fun (W : World) => less_any (w := W) (t := m1) (hP x)
      rw [hm] at hless HF
      have HL := hide hless
      have hsm : ∀ y, m.testBit y = true → y < n := fun y hy => by
        rw [← hm, less_bit (hP x), Bool.and_eq_true] at hy
        exact hPn x y hy.1
      have hkeep := fun (l : List Nat) (hl : ∀ y ∈ l, y < 512) => arL_keeps (P := P) k l m1 hl HS.out
      have HE := hide (fun (w6 : World) (H6 : Below w3.heap.size w3 w6) => each_around (m := m) (p1 := p1) (p2 := p2) (p3 := p3) (J := fun y W => BoxS W p1 (arL P k (elemsT m y) m1) ∧ Kp (fun j => j = p1) w3 W) w6
          (by
            have hb := H6.alloc H6.size (.cells (wc m) 64)
            exact ⟨HB3.out.keep (hb.block _ HB3.out.lt), Kp.of_below hb⟩)
          (by
            rintro y w' hy5 hy ⟨j1, j3⟩
            obtain ⟨q1, q3⟩ := hkeep (elemsT m y) (fun z hz => by have := (elemsT_mem.mp hz).1; omega)
            rw [elemsT_step hy, arL_snoc]
            refine (HI.out y _ w' (Nat.lt_of_le_of_lt (un_le q3) HU.out) (hsm y hy) q1 (HN3.out.keep j3) j1).mono ?_
            rintro e w'' ⟨h1, h2, h4⟩
            exact ⟨h1, h2, j3.trans h4⟩)
          (by
            rintro y w' hy ⟨j1, j3⟩
            rw [elemsT_skip hy]
            exact ⟨j1, j3⟩))
      clear hless hkeep hsm hm
      go_region_with (first
        | (go_at_call 50; refine (HL.out _).mono ?_; rintro e w4 ⟨rfl, hb4⟩
           have H4 := hide ((below_drewN (Below.refl w3.heap.size w3) 1).trans hb4)
           have cf4 := cell_of (o := 0) ((H4.out.block _ lp3).trans HN3.out.f) rfl
           have lp4 := Nat.lt_of_lt_of_le lp3 H4.out.size
           clear hb4)
        | (go_at_call 37; refine (HE.out _ H4.out).mono ?_; rintro e w7 ⟨⟨v7, rfl⟩, h7⟩; have H7 := hide h7; clear h7))
      all_goals go_wp2_with fail
      all_goals go_returns
      all_goals (rw [HF.out]; exact ⟨⟨_, rfl⟩, H7.out.1, HK3.out.trans H7.out.2⟩)
end
end Go.Proofs.Ytaejhppfcmeopaa
