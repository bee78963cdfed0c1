/- The program's soundOwn, soundPart, sound. -/
import Derived.Test.YtbejkphekfbfnaaGreatTyC
namespace Go.Proofs.YtbejkphekfbfnaaGreat
open Go.RowKit
attribute [local go_sem ↓] Go.wp_at_zero Go.wp_at_succ

section
variable (s : List UInt8) (m : Int) (ao : Option Addr) (n c : Nat) (w : World)
theorem own_1 : Calls Tryz.prog 109 #[.agg #[.int .i64 1, .string ⟨s.toArray⟩, .int .i64 m, .slice ao n c]] w fun e w' => e = .returned (.bool (s == [] && (m == 0 && (n : Int) == 0))) ∧ Below w.heap.size w w' := by
  cases hs : (s == ([] : List UInt8)) with
  | false =>
    go_enter Tryz.func109, Tryz.ntmps109
    go_wp2
    go_ret
    exact ⟨by simp, (Below.refl _ _).alloc (Nat.le_refl _) _⟩
  | true =>
    cases hm : (m == (0 : Int)) with
    | false =>
      go_enter Tryz.func109, Tryz.ntmps109
      go_wp2
      go_ret
      exact ⟨by simp, (Below.refl _ _).alloc (Nat.le_refl _) _⟩
    | true =>
      go_enter Tryz.func109, Tryz.ntmps109
      go_wp2
      go_ret
      exact ⟨by simp, (Below.refl _ _).alloc (Nat.le_refl _) _⟩
theorem own_2 : Calls Tryz.prog 109 #[.agg #[.int .i64 2, .string ⟨s.toArray⟩, .int .i64 m, .slice ao n c]] w fun e w' => e = .returned (.bool (s == [] && (m == 0 && (n : Int) == 0))) ∧ Below w.heap.size w w' := by
  cases hs : (s == ([] : List UInt8)) with
  | false =>
    go_enter Tryz.func109, Tryz.ntmps109
    go_wp2
    go_ret
    exact ⟨by simp, (Below.refl _ _).alloc (Nat.le_refl _) _⟩
  | true =>
    cases hm : (m == (0 : Int)) with
    | false =>
      go_enter Tryz.func109, Tryz.ntmps109
      go_wp2
      go_ret
      exact ⟨by simp, (Below.refl _ _).alloc (Nat.le_refl _) _⟩
    | true =>
      go_enter Tryz.func109, Tryz.ntmps109
      go_wp2
      go_ret
      exact ⟨by simp, (Below.refl _ _).alloc (Nat.le_refl _) _⟩
theorem own_3 : Calls Tryz.prog 109 #[.agg #[.int .i64 3, .string ⟨s.toArray⟩, .int .i64 m, .slice ao n c]] w fun e w' => e = .returned (.bool (s == [] && (m == 0 && (n : Int) == 0))) ∧ Below w.heap.size w w' := by
  cases hs : (s == ([] : List UInt8)) with
  | false =>
    go_enter Tryz.func109, Tryz.ntmps109
    go_wp2
    go_ret
    exact ⟨by simp, (Below.refl _ _).alloc (Nat.le_refl _) _⟩
  | true =>
    cases hm : (m == (0 : Int)) with
    | false =>
      go_enter Tryz.func109, Tryz.ntmps109
      go_wp2
      go_ret
      exact ⟨by simp, (Below.refl _ _).alloc (Nat.le_refl _) _⟩
    | true =>
      go_enter Tryz.func109, Tryz.ntmps109
      go_wp2
      go_ret
      exact ⟨by simp, (Below.refl _ _).alloc (Nat.le_refl _) _⟩
theorem own_8 : Calls Tryz.prog 109 #[.agg #[.int .i64 8, .string ⟨s.toArray⟩, .int .i64 m, .slice ao n c]] w fun e w' => e = .returned (.bool (s == [] && (m == 0 && (n : Int) == 0))) ∧ Below w.heap.size w w' := by
  cases hs : (s == ([] : List UInt8)) with
  | false =>
    go_enter Tryz.func109, Tryz.ntmps109
    go_wp2
    go_ret
    exact ⟨by simp, (Below.refl _ _).alloc (Nat.le_refl _) _⟩
  | true =>
    cases hm : (m == (0 : Int)) with
    | false =>
      go_enter Tryz.func109, Tryz.ntmps109
      go_wp2
      go_ret
      exact ⟨by simp, (Below.refl _ _).alloc (Nat.le_refl _) _⟩
    | true =>
      go_enter Tryz.func109, Tryz.ntmps109
      go_wp2
      go_ret
      exact ⟨by simp, (Below.refl _ _).alloc (Nat.le_refl _) _⟩
theorem own_5 : Calls Tryz.prog 109 #[.agg #[.int .i64 5, .string ⟨s.toArray⟩, .int .i64 m, .slice ao n c]] w fun e w' => e = .returned (.bool (s == [] && (m == 0 && (n : Int) == 1))) ∧ Below w.heap.size w w' := by
  cases hs : (s == ([] : List UInt8)) with
  | false =>
    go_enter Tryz.func109, Tryz.ntmps109
    go_wp2
    go_ret
    exact ⟨by simp, (Below.refl _ _).alloc (Nat.le_refl _) _⟩
  | true =>
    cases hm : (m == (0 : Int)) with
    | false =>
      go_enter Tryz.func109, Tryz.ntmps109
      go_wp2
      go_ret
      exact ⟨by simp, (Below.refl _ _).alloc (Nat.le_refl _) _⟩
    | true =>
      go_enter Tryz.func109, Tryz.ntmps109
      go_wp2
      go_ret
      exact ⟨by simp, (Below.refl _ _).alloc (Nat.le_refl _) _⟩
theorem own_6 : Calls Tryz.prog 109 #[.agg #[.int .i64 6, .string ⟨s.toArray⟩, .int .i64 m, .slice ao n c]] w fun e w' => e = .returned (.bool (s == [] && (m == 0 && (n : Int) == 1))) ∧ Below w.heap.size w w' := by
  cases hs : (s == ([] : List UInt8)) with
  | false =>
    go_enter Tryz.func109, Tryz.ntmps109
    go_wp2
    go_ret
    exact ⟨by simp, (Below.refl _ _).alloc (Nat.le_refl _) _⟩
  | true =>
    cases hm : (m == (0 : Int)) with
    | false =>
      go_enter Tryz.func109, Tryz.ntmps109
      go_wp2
      go_ret
      exact ⟨by simp, (Below.refl _ _).alloc (Nat.le_refl _) _⟩
    | true =>
      go_enter Tryz.func109, Tryz.ntmps109
      go_wp2
      go_ret
      exact ⟨by simp, (Below.refl _ _).alloc (Nat.le_refl _) _⟩
theorem own_4 (hl : s.length ≤ maxLen) : Calls Tryz.prog 109 #[.agg #[.int .i64 4, .string ⟨s.toArray⟩, .int .i64 m, .slice ao n c]] w fun e w' => e = .returned (.bool (freeP s && (m == 0 && (n : Int) == 0))) ∧ Below w.heap.size w w' := by
  have hb0 := (Below.refl w.heap.size w).alloc (Nat.le_refl _) (.cells #[.int .i64 4, .string ⟨s.toArray⟩, .int .i64 m, .slice ao n c] 27)
  have cF := freeName_any s hl (w.alloc (.cells #[.int .i64 4, .string ⟨s.toArray⟩, .int .i64 m, .slice ao n c] 27))
  have x2 : Hid (∀ w2, Below (w.alloc (.cells #[.int .i64 4, .string ⟨s.toArray⟩, .int .i64 m, .slice ao n c] 27)).heap.size (w.alloc (.cells #[.int .i64 4, .string ⟨s.toArray⟩, .int .i64 m, .slice ao n c] 27)) w2 → w2.cell? ⟨w.heap.size, 2, none⟩ = some (.int .i64 m) ∧ w2.cell? ⟨w.heap.size, 3, none⟩ = some (.slice ao n c)) := by
    intro w2 hb
    exact ⟨(Below.cell (p := ⟨w.heap.size, 2, none⟩) hb (by simp)).trans (by rw [World.cell?_alloc_new]; rfl), (Below.cell (p := ⟨w.heap.size, 3, none⟩) hb (by simp)).trans (by rw [World.cell?_alloc_new]; rfl)⟩
  cases hf : freeP s with
  | false =>
    rw [hf] at cF
    go_enter Tryz.func109, Tryz.ntmps109
    go_wp2_with fail
    refine cF.mono ?_
    rintro e w2 ⟨rfl, hb⟩
    clear cF
    go_wp2
    go_ret
    exact ⟨by simp, hb0.trans (hb.mono (by simp))⟩
  | true =>
    rw [hf] at cF
    cases hm : (m == (0 : Int)) with
    | false =>
      go_enter Tryz.func109, Tryz.ntmps109
      go_wp2_with fail
      refine cF.mono ?_
      rintro e w2 ⟨rfl, hb⟩
      obtain ⟨y2, y3⟩ := x2.out w2 hb
      clear cF
      go_wp2
      go_ret
      exact ⟨by simp, hb0.trans (hb.mono (by simp))⟩
    | true =>
      go_enter Tryz.func109, Tryz.ntmps109
      go_wp2_with fail
      refine cF.mono ?_
      rintro e w2 ⟨rfl, hb⟩
      obtain ⟨y2, y3⟩ := x2.out w2 hb
      clear cF
      go_wp2
      go_ret
      exact ⟨by simp, hb0.trans (hb.mono (by simp))⟩
theorem own_7 : Calls Tryz.prog 109 #[.agg #[.int .i64 7, .string ⟨s.toArray⟩, .int .i64 m, .slice ao n c]] w fun e w' => e = .returned (.bool (s == [] && (decide (0 ≤ m) && decide (m ≤ n)))) ∧ Below w.heap.size w w' := by
  cases hs : (s == ([] : List UInt8)) with
  | false =>
    go_enter Tryz.func109, Tryz.ntmps109
    go_wp2
    go_ret
    exact ⟨by simp, (Below.refl _ _).alloc (Nat.le_refl _) _⟩
  | true =>
    cases hm : decide (0 ≤ m) with
    | false =>
      go_enter Tryz.func109, Tryz.ntmps109
      go_wp2
      go_ret
      exact ⟨by simp, (Below.refl _ _).alloc (Nat.le_refl _) _⟩
    | true =>
      go_enter Tryz.func109, Tryz.ntmps109
      go_wp2
      go_ret
      exact ⟨by simp, (Below.refl _ _).alloc (Nat.le_refl _) _⟩
theorem own_no (k : Int) (h1 : k ≠ 1) (h2 : k ≠ 2) (h3 : k ≠ 3) (h4 : k ≠ 4) (h5 : k ≠ 5) (h6 : k ≠ 6) (h7 : k ≠ 7) (h8 : k ≠ 8) : Calls Tryz.prog 109 #[.agg #[.int .i64 k, .string ⟨s.toArray⟩, .int .i64 m, .slice ao n c]] w fun e w' => e = .returned (.bool false) ∧ Below w.heap.size w w' := by
  have e1 : (k == 1) = false := by simpa using h1
  have e2 : (k == 2) = false := by simpa using h2
  have e3 : (k == 3) = false := by simpa using h3
  have e4 : (k == 4) = false := by simpa using h4
  have e5 : (k == 5) = false := by simpa using h5
  have e6 : (k == 6) = false := by simpa using h6
  have e7 : (k == 7) = false := by simpa using h7
  have e8 : (k == 8) = false := by simpa using h8
  clear h1 h2 h3 h4 h5 h6 h7 h8
  go_enter Tryz.func109, Tryz.ntmps109
  go_wp2
  go_ret
  exact ⟨rfl, (Below.refl _ _).alloc (Nat.le_refl _) _⟩
end
theorem soundOwn_any (k : Int) (s : List UInt8) (m : Int) (ao : Option Addr) (n c : Nat) (w : World) (hl : s.length ≤ maxLen) : Calls Tryz.prog 109 #[.agg #[.int .i64 k, .string ⟨s.toArray⟩, .int .i64 m, .slice ao n c]] w (OutB (ownP k s m n) w) := by
  by_cases h1 : k = 1
  · subst h1; exact own_1 s m ao n c w
  by_cases h2 : k = 2
  · subst h2; exact own_2 s m ao n c w
  by_cases h3 : k = 3
  · subst h3; exact own_3 s m ao n c w
  by_cases h8 : k = 8
  · subst h8; exact own_8 s m ao n c w
  by_cases h4 : k = 4
  · subst h4; exact own_4 s m ao n c w hl
  by_cases h5 : k = 5
  · subst h5; exact own_5 s m ao n c w
  by_cases h6 : k = 6
  · subst h6; exact own_6 s m ao n c w
  by_cases h7 : k = 7
  · subst h7; exact own_7 s m ao n c w
  have : ownP k s m n = false := by simp [ownP, h1, h2, h3, h4, h5, h6, h7, h8]
  rw [this]
  exact own_no s m ao n c w k h1 h2 h3 h4 h5 h6 h7 h8

/-- The texts of a tree are not too long. -/
def TxN : Nat → Tr → Prop
  | 0, _ => True
  | n + 1, t => t.text.length ≤ maxLen ∧ ∀ k ∈ t.kids, TxN n k
set_option maxRecDepth 20000 in
set_option maxHeartbeats 2000000 in
theorem soundPart_any : ∀ (deep : Nat) (k : Int) (s : List UInt8) (num : Int) (ks : List Tr) (sl : Value) (S : Nat → Prop) (w : World) (L left : Nat), deep ≤ 100 → left ≤ 20000 → TxN deep (.mk k s num ks) → w.heap[L]? = some (.cells #[.int .i64 left] 3 (0, 0)) → (∀ b, S b → b < w.heap.size ∧ b ≠ L) → KT w S (.mk k s num ks) sl →
    Calls Tryz.prog 71 #[.agg #[.int .i64 k, .string ⟨s.toArray⟩, .int .i64 num, sl], .int .i64 deep, .pointer (some ⟨L, 0, none⟩)] w (OutC L w (spT (.mk k s num ks) deep left)) := by
  intro deep
  induction deep with
  | zero =>
    intro k s num ks sl S w L left _ hl _ hL hS hk
    have lc : w.cell? ⟨L, 0, none⟩ = some (.int .i64 left) := by simp [World.cell?, hL]
    obtain ⟨ao, nn, c, rfl⟩ := hk.slice
    have HR : Hid (spT (.mk k s num ks) 0 left = none) := by simp [Hid, spT]
    go_enter Tryz.func71, Tryz.ntmps71
    go_wp2
    go_ret
    exact OutC.of HR ⟨(But.refl _ _ _).alloc (Nat.le_refl _) _, rfl⟩
  | succ deep ih =>
    intro k s num ks sl S w L left hd hl hT hL hS hk
    have HI := Lib.hid ih
    clear ih
    obtain ⟨hT1, hT2⟩ := hT
    change s.length ≤ maxLen at hT1
    change ∀ k ∈ ks, TxN deep k at hT2
    have HT2 := Lib.hid hT2
    clear hT2
    have lc : w.cell? ⟨L, 0, none⟩ = some (.int .i64 left) := by simp [World.cell?, hL]
    have lL := lt_of_block hL
    have nL : L ≠ w.heap.size := by omega
    have nL2 : w.heap.size ≠ L := by omega
    by_cases h0 : left = 0
    · subst h0
      obtain ⟨ao, nn, c, rfl⟩ := hk.slice
      have HR : Hid (spT (.mk k s num ks) (deep + 1) 0 = none) := by simp [Hid, spT]
      have dz : (((deep : Int) + 1) == 0) = false := by rw [beq_eq_false_iff_ne]; omega
      go_enter Tryz.func71, Tryz.ntmps71
      go_wp2
      go_ret
      exact OutC.of HR ⟨(But.refl _ _ _).alloc (Nat.le_refl _) _, rfl⟩
    · obtain ⟨l, rfl⟩ : ∃ l, left = l + 1 := ⟨left - 1, by omega⟩
      have HR0 : Hid (spT (.mk k s num ks) (deep + 1) (l + 1) = if ownP k s num ks.length = false then none else spL ks deep l) := by simp [Hid, spT]
      have dz : ((deep : Int) + 1 == 0) = false := by rw [beq_eq_false_iff_ne]; omega
      have lz : ((l : Int) + 1 == 0) = false := by rw [beq_eq_false_iff_ne]; omega
      clear h0
      have hk' := hk
      simp only [KT] at hk'
      obtain ⟨sls, hrow, hkl⟩ := hk'
      obtain ⟨ao, nn, c, rfl⟩ := hk.slice
      have hnn : nn = ks.length ∧ (0 < ks.length → ∃ g o, ao = some ⟨g, o, none⟩ ∧ S g ∧ ∀ (j : Nat) u, (cellsOf ks sls)[j]? = some u → w.cell? ⟨g, o + j, none⟩ = some u) := by
        rcases hrow with ⟨e0, a, c', e⟩ | ⟨g, o, cap, e, _, hg, hc⟩
        · cases e; exact ⟨e0.symm, fun h => by omega⟩
        · cases e; exact ⟨rfl, fun _ => ⟨g, o, rfl, hg, hc⟩⟩
      obtain ⟨rfl, hrows⟩ := hnn
      have HW := Lib.hid hrows
      have HK := Lib.hid hkl
      clear hrows hkl hrow
      rw [show (((deep + 1 : Nat)) : Int) = (deep : Int) + 1 by omega]
      have hX0 := Hxt.start (w := w) (c0 := .int .i64 k) (c1 := .string ⟨s.toArray⟩) (c2 := .int .i64 num) (c3 := .slice ao ks.length c)
      have cO := soundOwn_any k s num ao ks.length c (w.alloc (.cells #[.int .i64 k, .string ⟨s.toArray⟩, .int .i64 num, .slice ao ks.length c] 27)) hT1
      cases ho : ownP k s num ks.length with
      | false =>
        rw [ho] at cO
        have HX : Hid (spT (.mk k s num ks) (deep + 1) (l + 1) = none) := HR0.out.trans (by rw [if_pos ho])
        clear ho
        go_enter Tryz.func71, Tryz.ntmps71
        go_wp2_with fail
        refine cO.mono ?_
        rintro e w1 ⟨rfl, hb1⟩
        have hX := hX0.next hb1
        clear cO hX0
        go_wp2
        go_ret
        exact OutC.of HX ⟨But.of_below hX.out, rfl⟩
      | true =>
        rw [ho] at cO
        have HR1 : Hid (spT (.mk k s num ks) (deep + 1) (l + 1) = spL ks deep l) := HR0.out.trans (by rw [if_neg (by rw [ho]; simp)])
        clear ho
        go_enter Tryz.func71, Tryz.ntmps71
        go_wp2_with fail
        refine cO.mono ?_
        rintro e w1 ⟨rfl, hb1⟩
        have hX := hX0.next hb1
        have hL1 : w1.heap[L]? = some (.cells #[.int .i64 (l + 1 : Nat)] 3 (0, 0)) := (hX.out.block L lL).trans hL
        have lc1 : w1.cell? ⟨L, 0, none⟩ = some (.int .i64 (l + 1 : Nat)) := by simp [World.cell?, hL1]
        have lf1 : w1.frozen? ⟨L, 0, none⟩ = false := by simp [World.frozen?, hL1]
        have lL1 := lt_of_block hL1
        obtain ⟨_, _, _, x3⟩ := hX.cells
        have hL2 := heap_setCell_same w1 L 0 (.int .i64 l) hL1
        have hB1 : But L w.heap.size w (w1.setCell ⟨L, 0, none⟩ (.int .i64 l)) := (But.of_below hX.out).setCell (p := ⟨L, 0, none⟩) (.inl rfl) _
        have x3' : (w1.setCell ⟨L, 0, none⟩ (.int .i64 l)).cell? ⟨w.heap.size, 3, none⟩ = some (.slice ao ks.length c) := (World.cell?_of_block (w := w1) (a := ⟨w.heap.size, 3, none⟩) (Below.heap_setCell w1 _ _ _ nL2)).trans x3
        have HB1 := Lib.hid hB1
        have HL2 : Hid ((w1.setCell ⟨L, 0, none⟩ (.int .i64 l)).heap[L]? = some (.cells #[.int .i64 l] 3 (0, 0))) := by rw [Hid, hL2]; rfl
        obtain ⟨W1, hW1⟩ : ∃ W1, w1.setCell ⟨L, 0, none⟩ (.int .i64 l) = W1 := ⟨_, rfl⟩
        rw [hW1] at HB1 HL2 x3'
        clear cO hX0 hX hb1 hL2 hB1 hL1 hL x3
        go_wp2_with fail
        go_loopw [30] (fun v wr => ∃ (q l2 : Nat), q ≤ ks.length ∧ v = .int .i64 q ∧ But L w.heap.size w wr ∧ wr.heap[L]? = some (.cells #[.int .i64 l2] 3 (0, 0)) ∧ q + l2 ≤ 20000 ∧ Hid (spT (.mk k s num ks) (deep + 1) (l + 1) = spL (ks.drop q) deep l2)) (fun v _ => ks.length - (intOf v).toNat)
        case atStart => exact ⟨0, l, Nat.zero_le _, rfl, HB1.out, HL2.out, by omega, HR1.out⟩
        case round =>
          obtain ⟨q, l2, hq, rfl, hb, hL3, hl2, HQ⟩ := hrel
          clear hW1 HB1 HL2 x3' lc1 lf1
          have hz := hb.size
          by_cases hlt : q < ks.length
          · obtain ⟨g, o, rfl, hg, hc⟩ := HW.out (by omega)
            obtain ⟨t, ht⟩ : ∃ t, ks[q]? = some t := ⟨_, List.getElem?_eq_getElem hlt⟩
            obtain ⟨sl, hs⟩ : ∃ sl, sls[q]? = some sl := ⟨_, List.getElem?_eq_getElem (by rw [HK.out.length]; exact hlt)⟩
            have hkt := HK.out.get ht hs
            obtain ⟨a3, n3, c3, rfl⟩ := hkt.slice
            obtain ⟨q0, q1, q2, q3⟩ := cellsOf_get ht hs
            have r : ∀ o, wr.cell? ⟨g, o, none⟩ = w.cell? ⟨g, o, none⟩ := fun o => hb.cell (hS g hg).1 (hS g hg).2
            have x0 : wr.cell? ⟨g, o + q * 4, none⟩ = some (.int .i64 t.kind) := (r _).trans (hc _ _ q0)
            have x1 : wr.cell? ⟨g, o + q * 4 + 1, none⟩ = some (.string ⟨t.text.toArray⟩) := (r _).trans (hc _ _ q1)
            have x2 : wr.cell? ⟨g, o + q * 4 + 2, none⟩ = some (.int .i64 t.num) := (r _).trans (hc _ _ q2)
            have x3 : wr.cell? ⟨g, o + q * 4 + 3, none⟩ = some (.slice a3 n3 c3) := (r _).trans (hc _ _ q3)
            have hlb := lt_of_block hL3
            have hgb : g < wr.heap.size := by have := (hS g hg).1; omega
            have HD := Lib.hid (drop_get ht)
            have htx := HT2.out t (List.mem_of_getElem? ht)
            have hkt3 : KT (wr.alloc (.cells #[.int .i64 t.kind, .string ⟨t.text.toArray⟩, .int .i64 t.num, .slice a3 n3 c3] 27)) S t (.slice a3 n3 c3) := hkt.fr (fun b hb' => (Below.heap_alloc wr _ b (by have := (hS b hb').1; omega)).trans (hb.block b (hS b hb').1 (hS b hb').2)) (fun _ h => h)
            obtain ⟨tk, ts, tn, tks⟩ := t
            have cC := HI.out tk ts tn tks (.slice a3 n3 c3) S _ L l2 (by omega) (by omega) htx ((Below.heap_alloc wr (.cells #[.int .i64 tk, .string ⟨ts.toArray⟩, .int .i64 tn, .slice a3 n3 c3] 27) L hlb).trans hL3) (fun b hb' => ⟨by rw [World.size_alloc]; have := (hS b hb').1; omega, (hS b hb').2⟩) hkt3
            simp only [Tr.kind, Tr.text, Tr.num] at x0 x1 x2
            clear ht hs q0 q1 q2 q3 r hc hkt hkt3
            cases h8 : (tk == 8) with
            | true =>
              have HX : Hid (spT (.mk k s num ks) (deep + 1) (l + 1) = none) := HQ.out.trans (by rw [HD.out]; simp only [spL, Tr.kind, h8]; rfl)
              clear cC
              go_wp2
              go_ret
              exact OutC.of HX ⟨hb.alloc hz _, rfl⟩
            | false =>
              go_wp2_with fail
              refine cC.mono ?_
              rintro e w2 ⟨hb2, hr2⟩
              have z2 := hb2.size
              rw [World.size_alloc] at z2
              have hb3 : But L w.heap.size w w2 := (hb.alloc hz _).trans (hb2.mono (by simp; omega))
              clear cC
              cases hp : spT (.mk tk ts tn tks) deep l2 with
              | none =>
                rw [hp] at hr2
                have HX : Hid (spT (.mk k s num ks) (deep + 1) (l + 1) = none) := HQ.out.trans (by rw [HD.out]; simp only [spL, Tr.kind, h8, hp]; rfl)
                cases hr2
                clear hp
                go_wp2
                go_ret
                exact OutC.of HX ⟨hb3, rfl⟩
              | some l3 =>
                rw [hp] at hr2
                obtain ⟨rfl, hL4⟩ := hr2
                have hlt3 := spT_lt _ _ _ _ hp
                have HX : Hid (spT (.mk k s num ks) (deep + 1) (l + 1) = spL (ks.drop (q + 1)) deep l3) := HQ.out.trans (by rw [HD.out]; simp only [spL, Tr.kind, h8, hp]; rfl)
                clear hp
                go_wp2
                go_roundw
                case rel => exact ⟨q + 1, l3, by omega, by go_num, hb3, hL4, by omega, HX⟩
                case measure => simp [intOf]; omega
          · have HX : Hid (spT (.mk k s num ks) (deep + 1) (l + 1) = some l2) := HQ.out.trans (by rw [List.drop_eq_nil_of_le (by omega)]; rfl)
            go_wp2
            go_ret
            exact OutC.of HX ⟨hb, rfl, hL3⟩

theorem sound_any4 (k : Int) (s : List UInt8) (m : Int) (ks : List Tr) (sl : Value) (S : Nat → Prop) (w : World) (hT : TxN 100 (.mk k s m ks)) (hS : ∀ b, S b → b < w.heap.size) (hk : KT w S (.mk k s m ks) sl) :
    Calls Tryz.prog 36 #[.agg #[.int .i64 k, .string ⟨s.toArray⟩, .int .i64 m, sl]] w (OutB (soundP (.mk k s m ks)) w) := by
  obtain ⟨ao, nn, c, rfl⟩ := hk.slice
  have HR : Hid (soundP (.mk k s m ks) = (spT (.mk k s m ks) 100 20000).isSome) := (spT_sound _).symm
  have hk1 : KT ((w.alloc (.cells #[.int .i64 k, .string ⟨s.toArray⟩, .int .i64 m, .slice ao nn c] 27)).alloc (.cells #[.int .i64 20000] 3)) S (.mk k s m ks) (.slice ao nn c) := hk.fr (((Fr.refl _ _).alloc hS _).alloc (fun b hb => by have := hS b hb; simp; omega) _) (fun _ h => h)
  have hL : ((w.alloc (.cells #[.int .i64 k, .string ⟨s.toArray⟩, .int .i64 m, .slice ao nn c] 27)).alloc (.cells #[.int .i64 20000] 3)).heap[w.heap.size + 1]? = some (.cells #[.int .i64 (20000 : Nat)] 3 (0, 0)) := by
    have := heap_alloc_new (w.alloc (.cells #[.int .i64 k, .string ⟨s.toArray⟩, .int .i64 m, .slice ao nn c] 27)) (.cells #[.int .i64 20000] 3)
    rw [World.size_alloc] at this; exact this
  have cS := soundPart_any 100 k s m ks (.slice ao nn c) S _ (w.heap.size + 1) 20000 (Nat.le_refl _) (Nat.le_refl _) hT hL (fun b hb => ⟨by have := hS b hb; simp; omega, by have := hS b hb; omega⟩) hk1
  clear hL hk1
  go_enter Tryz.func36, Tryz.ntmps36
  go_wp2_with fail
  refine cS.mono ?_
  rintro e w2 ⟨hb2, hr2⟩
  have hB2 : Below w.heap.size w w2 := ⟨hb2.os, hb2.tape, hb2.output, by have := hb2.size; simp at this; omega, fun b hb => (hb2.block b (by simp; omega) (by omega)).trans ((Below.heap_alloc _ _ b (by simp; omega)).trans (Below.heap_alloc w _ b hb))⟩
  clear cS
  cases hp : spT (.mk k s m ks) 100 20000 with
  | none =>
    rw [hp] at hr2
    have HX : Hid (soundP (.mk k s m ks) = false) := HR.out.trans (by rw [hp]; rfl)
    cases hr2
    clear hp
    go_wp2
    go_ret
    exact OutB.of HX ⟨rfl, hB2⟩
  | some l =>
    rw [hp] at hr2
    have HX : Hid (soundP (.mk k s m ks) = true) := HR.out.trans (by rw [hp]; rfl)
    obtain ⟨rfl, _⟩ := hr2
    clear hp
    go_wp2
    go_ret
    exact OutB.of HX ⟨rfl, hB2⟩
end Go.Proofs.YtbejkphekfbfnaaGreat
