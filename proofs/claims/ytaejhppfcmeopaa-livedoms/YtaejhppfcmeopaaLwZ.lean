/- order's closure, walked. -/
import Derived.Test.YtaejhppfcmeopaaLwX
namespace Go.Proofs.Ytaejhppfcmeopaa
open Go.RowKit
section
variable {w0 : World} {p1 p2 p3 p4 n cap : Nat} {ao : Option Addr} {bs : List Blk} {K : Nat}
set_option maxRecDepth 100000 in
set_option maxHeartbeats 2000000 in
theorem order1_any {u : Nat → Nat} (uu : (∀ a b, Sbs a b → u b ≤ u a) ∧ ∀ a x, x < 512 → a.testBit x = false → u (a ||| 2 ^ x) < u a) (S : Snd bs K) (hn : bs.length = n) (R : BlksAt w0 (.slice ao n cap) bs) : ∀ (k x : Nat) (s : Nat × List Nat) (vl : Value) (w : World), u s.1 < k → x < n → Sm s.1 → s.2.length + un s.1 ≤ 512 → Od w0 w p1 p2 p3 p4 ao n cap s vl →
    Calls Try.prog 40 #[.int .i64 x, pp p1, pp p2, pp p3, pp p4] w fun e w' => (∃ v, e = .returned v) ∧ ∃ vl', Od w0 w' p1 p2 p3 p4 ao n cap (vsF (goN bs) k x s) vl'
  | 0, _, _, _, _, h, _, _, _, _ => absurd h (Nat.not_lt_zero _)
  | k + 1, x, s, vl, w, hu, hx, sm, hlen, V => by
    have hl := S.l
    have hx5 : x < 512 := by omega
    have hc := has_any (w := w) s.1 x hx5
    obtain ⟨a0, a1, a2, a3, a4, a5, a6, a7⟩ := V.m.all
    have l1 := V.m.lt
    cases h : s.1.testBit x with
    | true =>
      rw [h] at hc
      rw [vsF_in h]
      have HV := hide V
      clear hu sm V h hlen S R hn
      go_enter Try.func40, Try.ntmps40
      go_wp2_with (go_at_call 41; refine hc.mono ?_; rintro e w2 ⟨rfl, hb⟩)
      go_returns
      exact ⟨⟨_, rfl⟩, _, HV.out.under hb⟩
    | false =>
      rw [h] at hc
      have HI := hide (fun (y : Nat) (s' : Nat × List Nat) (vl' : Value) (w' : World) (h1 : u s'.1 < k) (h2 : y < n) (h4 : Sm s'.1) (h5 : s'.2.length + un s'.1 ≤ 512) (h6 : Od w0 w' p1 p2 p3 p4 ao n cap s' vl') => order1_any uu S hn R k y s' vl' w' h1 h2 h4 h5 h6)
      obtain ⟨b, hbb⟩ : ∃ b, bs[x]? = some b := ⟨bs[x]'(by omega), by simp⟩
      rw [vsF_new h, goN_of hbb]
      have h512 : ∀ x, ∀ y ∈ goN bs x, y < 512 := fun x y hy => by have := goN_lt S x y hy; omega
      have hu1 : u (s.1 ||| 2 ^ x) < u s.1 := uu.2 _ _ hx5 h
      have hun := un_add hx5 h
      have HK := hide (fun (q : Nat) => show u (vsL (goN bs) k ((b.n.map Int.toNat).take q) (s.1 ||| 2 ^ x, s.2)).1 < k ∧ Sm (vsL (goN bs) k ((b.n.map Int.toNat).take q) (s.1 ||| 2 ^ x, s.2)).1 ∧ (vsL (goN bs) k ((b.n.map Int.toNat).take q) (s.1 ||| 2 ^ x, s.2)).2.length + un (vsL (goN bs) k ((b.n.map Int.toNat).take q) (s.1 ||| 2 ^ x, s.2)).1 ≤ 511 from by
        obtain ⟨a1, a2, a3⟩ := vsL_keeps h512 k ((b.n.map Int.toNat).take q) (s.1 ||| 2 ^ x, s.2) (fun y hy => h512 x y (by rw [goN_of hbb]; exact List.mem_of_mem_take hy)) (sm.add hx5)
        have a4 := uu.1 _ _ a2
        exact ⟨by simp only at a4; omega, a1, by simp only at a3; omega⟩)
      obtain ⟨g', o, au, cu, ad, cd, an, cn, rfl, hg, e0, e1, e2, IU, ID, IN⟩ := R.get hbb
      have HC := hide (fun (W : World) (hW : Below w0.heap.size w0 W) => show W.cell? ⟨g', o + x * 3 + 2, none⟩ = some (.slice an b.n.length cn) ∧ IntsAt W (.slice an b.n.length cn) b.n ∧ g' < W.heap.size from ⟨by rw [keep_cell hW hg]; exact e2, IN.below hW, Nat.lt_of_lt_of_le hg hW.size⟩)
      have HS := hide S
      have HN := hide hn
      have HB := hide hbb
      have HV := hide V
      have hlen2 := IN.len
      generalize hmn : b.n.length = mn at *
      have HMN := hide hmn
      have bx : (x : Int) < (n : Int) := by omega
      have bn : (n : Int) ≤ 512 := by omega
      have bm : (mn : Int) ≤ 9223372036854775807 := by omega
      clear V IU ID IN e0 e1 e2 hmn hbb S sm h hun hu1 h512 hlen hu R hn hlen2
      go_enter Try.func40, Try.ntmps40
      go_wp2_with (first
        | (go_at_call 41; refine hc.mono ?_; rintro e w2 ⟨rfl, hb⟩; clear hc; have H2 := hide (HV.out.under hb); have hadd := add_box H2.out.m hx5)
        | (go_at_call 42; refine hadd.mono ?_; rintro e w3 ⟨⟨v3, rfl⟩, hb1, hk3⟩; clear hadd; have H3 := hide (H2.out.mark hk3 hb1); obtain ⟨c2, _, hgl⟩ := HC.out w3 H3.out.bel; have cb := cell_of (o := 0) H3.out.b rfl; have lb := lt_of_block H3.out.b; clear hb1 hk3))
      go_loopg [7, 19] mn (fun G v7 v19 wr => ∃ (q : Nat) (vl' : Value), v19 = .int .i64 q ∧ q ≤ mn ∧ mn - q ≤ G ∧ Hid (Od w0 wr p1 p2 p3 p4 (some ⟨g', o, none⟩) n cap (vsL (goN bs) k ((b.n.map Int.toNat).take q) (s.1 ||| 2 ^ x, s.2)) vl'))
      case atStart => exact ⟨0, _, rfl, Nat.zero_le _, Nat.le_refl _, H3⟩
      case round =>
        obtain ⟨q, vq, rfl, hq, hkk, HQ⟩ := hrel
        obtain ⟨W1, rfl⟩ : ∃ X, X = wr := ⟨wr, rfl⟩
        clear H2 H3 c2 hgl cb lb HV a0 a1 a2 a3 a4 a5 a6 a7 l1
        obtain ⟨hk1, hk2, hk3⟩ := HK.out q
        by_cases hql : q < mn
        · obtain ⟨y0, hy0⟩ : ∃ y, b.n[q]? = some y := ⟨b.n[q]'(by rw [HMN.out]; exact hql), by simp⟩
          obtain ⟨y, rfl, hyn⟩ := HS.out.n x b HB.out y0 (List.mem_of_getElem? hy0)
          rw [HN.out] at hyn
          obtain ⟨gn, on, rfl, ln, kn⟩ := (HC.out W1 HQ.out.bel).2.1.cell hy0
          have hnx : vsL (goN bs) k ((b.n.map Int.toNat).take (q + 1)) (s.1 ||| 2 ^ x, s.2) = vsF (goN bs) k y (vsL (goN bs) k ((b.n.map Int.toNat).take q) (s.1 ||| 2 ^ x, s.2)) := by
            rw [List.take_add_one, List.getElem?_map, hy0]
            simp only [Option.map_some, Option.toList_some, Int.toNat_natCast]
            rw [vsL_snoc]
          have HX := hide hnx
          have bq : (q : Int) < (mn : Int) := by omega
          have cf := cell_of (o := 0) HQ.out.f rfl
          have lf := lt_of_block HQ.out.f
          clear hnx hy0
          generalize vsL (goN bs) k ((b.n.map Int.toNat).take q) (s.1 ||| 2 ^ x, s.2) = s' at *
          have hcall := HI.out y s' vq W1 hk1 hyn hk2 (by omega) HQ.out
          rw [← HX.out] at hcall
          go_wp2_with (go_at_call 40; (with_reducible refine hcall.mono ?_); rintro e w5 ⟨⟨v', rfl⟩, vl5, V5⟩; have HV5 := hide V5; clear V5)
          go_roundg (mn - (q + 1))
          case measure => omega
          case rel => exact ⟨q + 1, _, by go_num, by omega, Nat.le_refl _, HV5⟩
        · obtain rfl : mn = q := by omega
          obtain ⟨g2, cp, w7, hr, c7, z7, l7, V7⟩ := HQ.out.push x (by omega)
          rw [List.take_of_length_le (by rw [List.length_map, HMN.out]; exact Nat.le_refl _)] at hr V7
          have HRUN := hide hr
          have HV7 := hide V7
          have c4 := cell_of (o := 0) HQ.out.l rfl
          have l4 := lt_of_block HQ.out.l
          clear hr V7
          go_wp2_with (refine wpList_append_eq (by rfl) _ _ 34 (by rfl) (by rfl) (by rfl) HRUN.out ?_)
          go_returns
          exact ⟨⟨_, rfl⟩, _, HV7.out⟩
end
end Go.Proofs.Ytaejhppfcmeopaa
