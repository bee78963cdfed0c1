/- escaping: of each point, does it escape? -/
import Derived.Test.YtlbildodjnjniaaEsJ
namespace Go.Proofs.Ytlbildodjnjniaa
open Go.RowKit

/-- What holds while points are marked. -/
structure Ei (ps : List Pt) (fs : List Fl) (E : Nat → Bool) : Prop where
  esc : ∀ x, E x = true → Esc ps fs x
/-- All that the first k pairs mark is marked. -/
def Cls (ps : List Pt) (E : Nat → Bool) (hs : List (Int × Int)) (k : Nat) : Prop := ∀ (j : Nat) (p : Int × Int), j < k → hs[j]? = some p → mkB ps E p = true → E p.2.toNat = true
theorem Cls.all {ps : List Pt} {E : Nat → Bool} {hs : List (Int × Int)} (C : Cls ps E hs hs.length) : ∀ p ∈ hs, mkB ps E p = true → E p.2.toNat = true := fun p hp => by
  obtain ⟨j, hj⟩ := List.getElem?_of_mem hp
  exact C j p (get_lt hj) hj
theorem Cls.succ {ps : List Pt} {E : Nat → Bool} {hs : List (Int × Int)} {k : Nat} {p : Int × Int} (C : Cls ps E hs k) (hp : hs[k]? = some p) (h : mkB ps E p = true → E p.2.toNat = true) : Cls ps E hs (k + 1) := fun j q hj hq => by
  rcases Nat.lt_or_ge j k with h1 | h1
  · exact C j q h1 hq
  · obtain rfl : j = k := by omega
    rw [hp] at hq; cases hq; exact h
def b2n (b : Bool) : Nat := if b then 1 else 0
set_option maxHeartbeats 2000000 in
theorem escaping_any {w : World} {vp vf : Value} {ps : List Pt} {fs : List Fl} (R : PtsAt w vp ps) (F : FlsAt w vf fs) (G : Good ps fs) :
    Calls Try.prog 21 #[vp, vf] w fun e w' => ∃ (v : Value) (E : Nat → Bool), e = .returned v ∧ Hid (BoolsAt w' v ((List.range ps.length).map E) ∧ ∀ x, x < ps.length → (E x = true ↔ Esc ps fs x)) ∧ Below w.heap.size w w' := by
  have b1 := G.pl
  have HS := hide G.snd
  have HR := hide R
  -- the boxes
  obtain ⟨W1, hW1⟩ : ∃ W1, ((w.alloc (.cells #[vp] 22)).alloc (.cells (reps ps.length (.bool false)) 4)).alloc (.cells #[.slice (some ⟨w.heap.size + 1, 0, none⟩) ps.length ps.length] 34) = W1 := ⟨_, rfl⟩
  have hbl : Below w.heap.size w W1 := by rw [← hW1]; exact (((Below.refl _ _).alloc (Nat.le_refl _) _).alloc (by simp) _).alloc (by simp; omega) _
  have M0 : Em w W1 w.heap.size (w.heap.size + 1 + 1) (w.heap.size + 1) ps.length vp (fun _ => false) := by
    rw [← hW1]
    refine ⟨?_, heap_new _ _ (by simp), ⟨_, (Below.heap_alloc _ _ _ (by simp)).trans (heap_new _ _ (by simp)), reps_size _ _, fun i hi => reps_get hi⟩, ?_, by omega⟩
    · exact (Below.heap_alloc _ _ _ (by simp; omega)).trans ((Below.heap_alloc _ _ _ (by simp)).trans (heap_new _ _ rfl))
    · rw [hW1]; exact hbl
  have HM0 := hide M0
  have hmk := fun W : World => run_bools W ps.length (by omega)
  have hgr := graphOf_any (R.below hbl) (F.below hbl) G
  have hf := G.fl
  obtain ⟨ao, cap, rfl, _⟩ := R
  obtain ⟨bo, cbp, rfl, _⟩ := F
  obtain ⟨m1, _⟩ := M0.cells
  generalize hn : ps.length = n at *
  have HN := hide hn
  have c1 : (n : Int) ≤ 512 := by omega
  clear hn M0 G
  go_enter Try.func21, Try.ntmps21
  go_wp2_with fail
  refine hgr.mono ?_
  rintro e w2 ⟨⟨vg, rfl, GR⟩, hb2⟩
  have hho := holds_any GR HS.out (by omega) hf
  have HM2 := hide (HM0.out.under hb2)
  clear hgr GR hmk hW1 hbl m1
  go_wp2_with fail
  refine hho.mono ?_
  rintro e w3 ⟨vh, hs, rfl, HH, hb3⟩
  obtain ⟨hown, hlen, hol⟩ := HH.out
  obtain ⟨ah, ch, hvh⟩ := row_form hown
  subst hvh
  have HM3 := hide (HM2.out.under hb3)
  have HO := hide hown
  have HOL := hide hol
  clear HM0 HM2 hho hb2 hb3 HH hown hol
  generalize w2.heap.size = B0 at HO
  generalize hm : hs.length = m at *
  have HMm := hide hm
  have bm : (m : Int) ≤ 1000000 := by omega
  generalize w.heap.size + 1 + 1 = be at HM3 ⊢
  generalize hbp : w.heap.size = bp at HM3 ⊢
  have HBP := hide hbp
  generalize bp + 1 = bb at HM3 ⊢
  clear hm hbp
  go_wp2
  go_loopg [8] (n + 1) (fun K v wr => ∃ (E : Nat → Bool) (b : Bool), v = .bool b ∧ Hid (Em w wr bp be bb n (.slice ao n cap) E ∧ wr.ownsRow B0 62 2 (.slice ah m ch) m (pcs hs)) ∧ Hid (∀ x, E x = true → Esc ps fs x) ∧ Hid (b = false → Cls ps E hs m) ∧ Hid (cntF E n + b2n b ≤ K))
  case atStart => exact ⟨_, true, rfl, ⟨HM3.out, HO.out⟩, fun x h => (by cases h), fun h => (by cases h), (by have := cntF_le (fun _ => false) n; show _ + 1 ≤ _; omega)⟩
  case round =>
    clear HM3 HO
    obtain ⟨E, b, rfl, HM, HE, HC, HK⟩ := hrel
    obtain ⟨G1, rfl⟩ : ∃ G1, G1 = gk := ⟨gk, rfl⟩
    cases b with
    | false =>
      obtain ⟨cp, ce, cb, cf, l1, l2, l3⟩ := HM.out.1.cells
      have HCB := hide cb
      clear cb cf
      go_wp2
      go_ret
      refine ⟨_, rfl, ⟨E, hide ⟨⟨some ⟨bb, 0, none⟩, n, by simp, fun j x hx => ?_⟩, fun x hx => ⟨HE.out x, fun h => ?_⟩⟩⟩, HM.out.1.bel⟩
      · rw [List.getElem?_map] at hx
        by_cases hj : j < n
        · rw [List.getElem?_range hj] at hx
          simp at hx; subst hx
          exact ⟨bb, 0, rfl, l3, by rw [Nat.zero_add]; exact HCB.out j hj⟩
        · rw [List.getElem?_eq_none (by simp; omega)] at hx; cases hx
      · refine esc_all (by rw [HN.out]; exact HS.out) (by rw [HN.out]; exact HOL.out) (Cls.all ?_) h
        rw [HMm.out]; exact HC.out (by trivial)
    | true =>
      go_upto_region 8 with fail
      generalize hc0 : cntF E n = c0 at HK
      have HC0 := hide (show cntF E n + b2n false ≤ c0 by rw [hc0]; exact Nat.le_refl _)
      clear hc0
      go_loopg [8, 22] m (fun K2 v8 vi wr2 => ∃ (k : Nat) (E : Nat → Bool) (b : Bool), v8 = .bool b ∧ vi = .int .i64 k ∧ k ≤ m ∧ m - k ≤ K2 ∧ Hid (Em w wr2 bp be bb n (.slice ao n cap) E ∧ wr2.ownsRow B0 62 2 (.slice ah m ch) m (pcs hs)) ∧ Hid (∀ x, E x = true → Esc ps fs x) ∧ Hid (b = false → Cls ps E hs k) ∧ Hid (cntF E n + b2n b ≤ c0))
      case atStart => exact ⟨0, E, false, rfl, rfl, Nat.zero_le _, Nat.le_refl _, HM, HE, hide (fun _ j p hj => absurd hj (Nat.not_lt_zero _)), HC0⟩
      case round =>
        clear HM HE HC HC0
        obtain ⟨k, E', b, rfl, rfl, hk, hgk, HM, HE, HC, HK2⟩ := hrel
        obtain ⟨G2, rfl⟩ : ∃ G2, G2 = gk := ⟨gk, rfl⟩
        by_cases hlt : k < m
        · obtain ⟨p, hp⟩ : ∃ p, hs[k]? = some p := ⟨hs[k]'(by rw [HMm.out]; exact hlt), by simp⟩
          have how := HM.out.2
          rw [← HMm.out] at how
          obtain ⟨g, cg, hag, hgl, e0, e1⟩ := pair_cell how hp
          obtain rfl : ah = some ⟨g, 0, none⟩ := (Value.slice.inj hag).1
          obtain ⟨q1, q2, q3, q4, q5⟩ := (HOL.out p).1 (List.mem_of_getElem? hp)
          obtain ⟨r, hr⟩ : ∃ r, p.1 = r := ⟨_, rfl⟩
          obtain ⟨xn, hx⟩ : ∃ xn : Nat, p.2 = xn := ⟨p.2.toNat, by omega⟩
          have hpe : p = (r, (xn : Int)) := by rw [← hr, ← hx]
          rw [hr] at e0 q1 q2
          rw [hx] at e1 q3 q4
          have HP := hide hp
          rw [hpe] at HP
          obtain ⟨W3, hW3⟩ : ∃ W3, wr.alloc (.cells #[.int .i64 r, .int .i64 (xn : Int)] 62) = W3 := ⟨_, rfl⟩
          have hb3 : Below wr.heap.size wr W3 := by rw [← hW3]; exact (Below.refl _ _).alloc (Nat.le_refl _) _
          have bx3 : W3.heap[wr.heap.size]? = some (.cells #[.int .i64 r, .int .i64 (xn : Int)] 62 (0, 0)) := by rw [← hW3]; exact heap_new _ _ rfl
          have M3 := HM.out.1.under hb3
          have O3 := ownsRow_keep (w' := W3) HM.out.2 fun g hg => hb3.block g (HM.out.2.lt g hg).2
          obtain ⟨cp, ce, cb, cf, l1, l2, l3⟩ := M3.cells
          have cx := cb xn (by omega)
          have f0 := cell_of bx3 (o := 0) rfl
          have f1 := cell_of bx3 (o := 1) rfl
          have hmark := marked_any M3 (ps := ps) ((HR.out.below M3.bel)) HN.out q1 q2 q3 q4
          have HM3 := hide (And.intro M3 O3)
          have bk : (k : Int) < (m : Int) := by omega
          have bx : (xn : Int) < (n : Int) := by omega
          obtain ⟨ex, hex⟩ : ∃ ex, E' xn = ex := ⟨_, rfl⟩
          rw [hex] at cx
          have HEX := hide hex
          have HX3 := hide bx3
          clear hp how hag hgl hr hx hpe hb3 M3 O3 cb cf hex bx3 q5
          cases ex with
          | true =>
            have hcl := hide (fun hb : b = false => (HC.out hb).succ HP.out (fun _ => HEX.out))
            go_wp2
            go_roundg (G2 - 1)
            case measure => omega
            case rel => exact ⟨k + 1, E', b, rfl, by go_num, by omega, by omega, HM3, HE, hcl, HK2⟩
          | false =>
            cases hmk : mkB ps E' (r, (xn : Int)) with
            | false =>
              rw [hmk] at hmark
              have hcl := hide (fun hb : b = false => (HC.out hb).succ HP.out (fun h => by rw [hmk] at h; cases h))
              clear hmk
              go_wp2_with (go_at_call 28; refine hmark.mono ?_; rintro e w4 ⟨rfl, hb4⟩; have HM4 := hide (show Em w w4 bp be bb n (.slice ao n cap) E' ∧ w4.ownsRow B0 62 2 (.slice (some ⟨g, 0, none⟩) m ch) m (pcs hs) from ⟨HM3.out.1.under hb4, ownsRow_keep HM3.out.2 fun g hg => hb4.block g (HM3.out.2.lt g hg).2⟩); clear hb4)
              go_roundg (G2 - 1)
              case measure => omega
              case rel => exact ⟨k + 1, E', b, rfl, by go_num, by omega, by omega, HM4, HE, hcl, HK2⟩
            | true =>
              rw [hmk] at hmark
              have hes := hide (mk_esc (by rw [HN.out]; exact HOL.out) HE.out (List.mem_of_getElem? HP.out) hmk)
              have hcn := hide (cntF_set (E := E') (m := n) (x := xn) (by omega) HEX.out)
              clear hmk
              go_wp2_with (go_at_call 28; refine hmark.mono ?_; rintro e w4 ⟨rfl, hb4⟩; have M4 := HM3.out.1.under hb4; have bx4 := (hb4.block wr.heap.size (lt_of_block HX3.out)).trans HX3.out; have O4 := ownsRow_keep (w' := w4) HM3.out.2 fun g hg => hb4.block g (HM3.out.2.lt g hg).2; obtain ⟨_, ce4, cb4, cf4, _, le4, lb4⟩ := M4.cells; have h40 := cell_of bx4 (o := 1) rfl; have cx4 := cb4 xn (by omega); have cfx4 := cf4 xn; have HM4 := hide (And.intro (M4.set (x := xn) (by omega)) (ownsRow_keep (w' := w4.setCell ⟨bb, xn, none⟩ (.bool true)) O4 (fun g hg => Below.heap_setCell _ _ _ _ (fun e => by obtain ⟨c1, k1⟩ := row_type O4 hg; obtain ⟨arr, k2, _⟩ := M4.ee; rw [e, k2] at k1; simp at k1)))); clear cb4 cf4 bx4 M4 O4 hb4)
              go_roundg (G2 - 1)
              case measure => omega
              case rel => exact ⟨k + 1, upf E' xn true, true, rfl, by go_num, by omega, by omega, HM4, hes, hide (fun h => by cases h), hide (by have h1 := hcn.out; have h2 := HK2.out; show _ + 1 ≤ c0; omega)⟩
        · obtain rfl : k = m := by omega
          go_wp2
          go_roundg (G1 - 1)
          case measure => have := HK.out; unfold b2n at this; simp at this; omega
          case rel => exact ⟨E', b, rfl, HM, HE, HC, hide (by have h1 := HK2.out; have h2 := HK.out; unfold b2n at h2; simp at h2; omega)⟩
end Go.Proofs.Ytlbildodjnjniaa
