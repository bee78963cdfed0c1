/- The document's Decode. -/
import Derived.Test.YtnkdlbiicfnmcaaCdHf
import Derived.Test.YtnkdlbiicfnmcaaCdGs
import Derived.Test.YtnkdlbiicfnmcaaCdRd
import Derived.Deep.CutBlock
namespace Go.Proofs.Ytnkdlbiicfnmcaa
open Go.RowKit
/-- What the header says. -/
theorem fixed_cons (b0 b1 b2 : UInt8) (r : By) : fixedR ⟨b0 :: b1 :: b2 :: r, false⟩ = if b0 = 72 ∧ b1 = 89 ∧ b2 = 49 then ⟨r, false⟩ else failS := by
  have ht : takeR 3 ⟨b0 :: b1 :: b2 :: r, false⟩ = ([b0, b1, b2], ⟨r, false⟩) := by unfold takeR; rw [if_neg (by simp)]; rfl
  unfold fixedR
  rw [ht]
  by_cases h : b0 = 72 ∧ b1 = 89 ∧ b2 = 49
  · obtain ⟨rfl, rfl, rfl⟩ := h
    rfl
  · rw [if_neg h, if_neg]
    intro e
    simp only [hdE, List.cons.injEq, and_true] at e
    exact h e
/-- With a header the rest is left. -/
theorem fixed_good {b : By} (h : (fixedR ⟨b, false⟩).bad = false) : 3 ≤ b.length ∧ fixedR ⟨b, false⟩ = ⟨b.drop 3, false⟩ := by
  obtain _ | ⟨b0, _ | ⟨b1, _ | ⟨b2, r⟩⟩⟩ := b
  · cases h
  · cases h
  · cases h
  · rw [fixed_cons] at h ⊢
    split at h
    · rename_i hc
      rw [if_pos hc]
      exact ⟨by simp, rfl⟩
    · cases h
theorem u8_ne {b : UInt8} {n : UInt8} (h : ¬ b = n) : ¬ b.toNat = n.toNat := fun e => h (UInt8.toNat_inj.mp e)
theorem u8_int (b : UInt8) : (0 : Int) ≤ (b.toNat : Int) ∧ (b.toNat : Int) ≤ 255 := by have := b.toNat_lt; omega
/-- The loops' relations. -/
def D1R (B rb A pb N : Nat) (w : World) (n : Nat) (s0 : Rs) (a : Value) (wr : World) : Prop := ∃ (l : List (List Int)) (s1 : Rs), a = .int .i64 (l.length : Nat) ∧ l.length ≤ n ∧ DS B rb A pb N w l [] [] [] s1 wr ∧ LpA intsR n s0 l s1
def D2R (B rb A pb N : Nat) (w : World) (l1 : List (List Int)) (n : Nat) (s0 : Rs) (a : Value) (wr : World) : Prop := ∃ (l : List Fd) (s1 : Rs), a = .int .i64 (l.length : Nat) ∧ l.length ≤ n ∧ DS B rb A pb N w l1 l [] [] s1 wr ∧ LpA fdR n s0 l s1
def D3R (B rb A pb N : Nat) (w : World) (l1 : List (List Int)) (l2 : List Fd) (n : Nat) (s0 : Rs) (a : Value) (wr : World) : Prop := ∃ (l : List (List Int)) (s1 : Rs), a = .int .i64 (l.length : Nat) ∧ l.length ≤ n ∧ DS B rb A pb N w l1 l2 l [] s1 wr ∧ LpA intsR n s0 l s1
def D4R (B rb A pb N : Nat) (w : World) (l1 : List (List Int)) (l2 : List Fd) (l3 : List (List Int)) (n : Nat) (s0 : Rs) (a : Value) (wr : World) : Prop := ∃ (l : List By) (s1 : Rs), a = .int .i64 (l.length : Nat) ∧ l.length ≤ n ∧ DS B rb A pb N w l1 l2 l3 l s1 wr ∧ LpA strR n s0 l s1
def DIR (B A fb : Nat) (wo : World) (pa : Int) (u1 u2 u3 : Value) (lo re ar : List Int) (m : Nat) (s0 : Rs) (a : Value) (wy : World) : Prop := ∃ (v4 : Value) (co : List In3) (s1 : Rs), a = .int .i64 (co.length : Nat) ∧ co.length ≤ m ∧ FS B A fb wo pa u1 u2 u3 v4 lo re ar co s1 wy ∧ LpA insR m s0 co s1
theorem CntA.le {s s1 : Rs} {n : Nat} (h : CntA s n s1) (hl : s1.rest.length ≤ MB) : n ≤ 4194304 := by
  simp only [MB] at hl
  rcases h with ⟨_, _, _, h⟩ | ⟨_, h, _⟩ <;> omega
set_option maxRecDepth 100000 in
set_option maxHeartbeats 4000000 in
theorem gdecode : DecC 14 := by
  intro B w v b R hB
  have HR := hide R
  obtain ⟨ao, cap, hv, hcap, hcm, hno, hsp, hel⟩ := R
  subst hv
  obtain ⟨W1, hW1⟩ : ∃ W1, w.alloc (.cells #[.slice none 0 0, .slice none 0 0, .slice none 0 0, .slice none 0 0] 27) = W1 := ⟨_, rfl⟩
  have B1 := hide (show Below w.heap.size w W1 from by rw [← hW1]; exact (Below.refl _ _).alloc (Nat.le_refl _) _)
  have e1 : W1.heap[w.heap.size]? = some (.cells #[.slice none 0 0, .slice none 0 0, .slice none 0 0, .slice none 0 0] 27 (0, 0)) := by rw [← hW1]; exact heap_new _ _ rfl
  have E1 := hide e1
  have Z1 := hide (show W1.heap.size = w.heap.size + 1 by rw [← hW1]; simp)
  have s0 : W1.cell? ⟨w.heap.size, 0, none⟩ = some (.slice none 0 0) := cell_of e1 rfl
  have s1 : W1.cell? ⟨w.heap.size, 1, none⟩ = some (.slice none 0 0) := cell_of e1 rfl
  have s2 : W1.cell? ⟨w.heap.size, 2, none⟩ = some (.slice none 0 0) := cell_of e1 rfl
  have s3 : W1.cell? ⟨w.heap.size, 3, none⟩ = some (.slice none 0 0) := cell_of e1 rfl
  have f0 : W1.frozen? ⟨w.heap.size, 0, none⟩ = false := by simp [World.frozen?, e1]
  have f1 : W1.frozen? ⟨w.heap.size, 1, none⟩ = false := by simp [World.frozen?, e1]
  have f2 : W1.frozen? ⟨w.heap.size, 2, none⟩ = false := by simp [World.frozen?, e1]
  have f3 : W1.frozen? ⟨w.heap.size, 3, none⟩ = false := by simp [World.frozen?, e1]
  have hlt1 : w.heap.size < W1.heap.size := lt_of_block e1
  clear e1
  by_cases hm : MB < b.length
  · --BEGIN A
    have HD := hide (show decP b = (pg0, 13) by unfold decP; rw [if_pos hm])
    have d1 : decide (4194304 < (b.length : Int)) = true := by simp only [MB] at hm; simp; omega
    clear hm hcap hcm hno hsp hel
    generalize b.length = n at *
    obtain ⟨WF, hWF⟩ : ∃ WF, set4 W1 w.heap.size (.slice none 0 0) (.slice none 0 0) (.slice none 0 0) (.slice none 0 0) = WF := ⟨_, rfl⟩
    obtain ⟨y0, y1, y2, y3⟩ : WF.cell? ⟨w.heap.size, 0, none⟩ = some (.slice none 0 0) ∧ WF.cell? ⟨w.heap.size, 1, none⟩ = some (.slice none 0 0) ∧ WF.cell? ⟨w.heap.size, 2, none⟩ = some (.slice none 0 0) ∧ WF.cell? ⟨w.heap.size, 3, none⟩ = some (.slice none 0 0) := by rw [← hWF]; exact set4_cells E1.out _ _ _ _
    have HBF := hide (show Below w.heap.size w WF from hWF ▸ set4_below B1.out (Nat.le_refl _) _ _ _ _)
    unfold set4 at hWF
    go_enter Try.func14, Try.ntmps14
    go_wp2
    refine bodyPost_ret (by simp [results, Try.results14, go_sem, y0, y1, y2, y3]; try rfl) rfl ?_
    rw [HD.out]
    exact ⟨_, _, _, _, rfl, pg0_at _ _, HBF.out⟩
    --END A
  · have d1 : decide (4194304 < (b.length : Int)) = false := by simp only [MB] at hm; simp; omega
    have b1 : (b.length : Int) ≤ 4194304 := by simp only [MB] at hm; omega
    have HM := hide (show b.length ≤ MB by omega)
    have HNM := hide hm
    have HEL := hide hel
    have HCAP := hide hcap
    have HCM := hide hcm
    have HNO := hide hno
    have HBB := hide hB
    have bc : (b.length : Int) ≤ (cap : Int) := by omega
    clear hm hel hsp hno hB hcm hcap
    go_enter Try.func14, Try.ntmps14
    go_upto_region 3 with (fail)
    go_cut [41] from 17 to 41 (fun c wc => c = .bool (fixedR ⟨b, false⟩).bad ∧ wc = W1)
    case first =>
      --BEGIN C
      obtain _ | ⟨b0, _ | ⟨b1', _ | ⟨b2, r⟩⟩⟩ := b
      · go_wp2
        go_meet
        exact ⟨rfl, rfl⟩
      · go_wp2
        go_meet
        exact ⟨rfl, rfl⟩
      · go_wp2
        go_meet
        exact ⟨rfl, rfl⟩
      · obtain ⟨g, o, hao, hg, c0⟩ := HEL.out 0 b0 rfl
        obtain ⟨g', o', hao', _, c1⟩ := HEL.out 1 b1' rfl
        rw [hao] at hao'
        cases hao'
        obtain ⟨g', o', hao', _, c2⟩ := HEL.out 2 b2 rfl
        rw [hao] at hao'
        cases hao'
        subst hao
        have hgw : g < w.heap.size := Nat.lt_of_lt_of_le hg HBB.out
        have k0 : W1.cell? ⟨g, o, none⟩ = some (.int .u8 b0.toNat) := (B1.out.cell (p := ⟨g, o, none⟩) hgw).trans c0
        have k1 : W1.cell? ⟨g, o + 1, none⟩ = some (.int .u8 b1'.toNat) := (B1.out.cell (p := ⟨g, o + 1, none⟩) hgw).trans c1
        have k2 : W1.cell? ⟨g, o + 2, none⟩ = some (.int .u8 b2.toNat) := (B1.out.cell (p := ⟨g, o + 2, none⟩) hgw).trans c2
        have HF := hide (fixed_cons b0 b1' b2 r)
        have hn : (3 : Int) ≤ ((b0 :: b1' :: b2 :: r).length : Int) := by simp only [List.length_cons]; omega
        have hn2 : decide (((b0 :: b1' :: b2 :: r).length : Int) < 3) = false := by simp only [List.length_cons]; simp; omega
        have hn3 : decide ((b0 :: b1' :: b2 :: r).length < 3) = false := by simp
        clear c0 c1 c2 hg hgw HEL HM HNM HCAP HCM HNO HR
        generalize hbb : b0 :: b1' :: b2 :: r = bb at *
        generalize bb.length = n at *
        by_cases h0 : b0 = 72
        · subst h0
          by_cases h1 : b1' = 89
          · subst h1
            by_cases h2 : b2 = 49
            · subst h2
              have HFF := hide (show (fixedR ⟨bb, false⟩).bad = false by rw [HF.out, if_pos ⟨rfl, rfl, rfl⟩])
              have k0' : W1.cell? ⟨g, o, none⟩ = some (.int .u8 72) := k0
              have k1' : W1.cell? ⟨g, o + 1, none⟩ = some (.int .u8 89) := k1
              have k2' : W1.cell? ⟨g, o + 2, none⟩ = some (.int .u8 49) := k2
              clear k0 k1 k2 hbb
              go_wp2
              go_meet
              exact ⟨congrArg Value.bool HFF.out.symm, rfl⟩
            · have HFF := hide (show (fixedR ⟨bb, false⟩).bad = true by rw [HF.out, if_neg (fun h => h2 h.2.2)]; rfl)
              have k0' : W1.cell? ⟨g, o, none⟩ = some (.int .u8 72) := k0
              have k1' : W1.cell? ⟨g, o + 1, none⟩ = some (.int .u8 89) := k1
              have hne : ¬ ((b2.toNat : Int) = 49) := by have := u8_ne h2; intro e; exact this (by simpa using Int.ofNat_inj.mp e)
              have hnb : ((b2.toNat : Int) != 49) = true := by simpa using hne
              clear k0 k1 hbb h2
              generalize (b2.toNat : Int) = m at *
              go_wp2
              go_meet
              exact ⟨congrArg Value.bool HFF.out.symm, rfl⟩
          · have HFF := hide (show (fixedR ⟨bb, false⟩).bad = true by rw [HF.out, if_neg (fun h => h1 h.2.1)]; rfl)
            have k0' : W1.cell? ⟨g, o, none⟩ = some (.int .u8 72) := k0
            have hne : ¬ ((b1'.toNat : Int) = 89) := by have := u8_ne h1; intro e; exact this (by simpa using Int.ofNat_inj.mp e)
            have hnb : ((b1'.toNat : Int) != 89) = true := by simpa using hne
            clear k0 k2 hbb h1
            generalize (b1'.toNat : Int) = m at *
            go_wp2
            go_meet
            exact ⟨congrArg Value.bool HFF.out.symm, rfl⟩
        · have HFF := hide (show (fixedR ⟨bb, false⟩).bad = true by rw [HF.out, if_neg (fun h => h0 h.1)]; rfl)
          have hne : ¬ ((b0.toNat : Int) = 72) := by have := u8_ne h0; intro e; exact this (by simpa using Int.ofNat_inj.mp e)
          have hnb : ((b0.toNat : Int) != 72) = true := by simpa using hne
          clear k1 k2 hbb h0
          generalize (b0.toNat : Int) = m at *
          go_wp2
          go_meet
          exact ⟨congrArg Value.bool HFF.out.symm, rfl⟩
      --END C
    case rest =>
      obtain ⟨hc, hw⟩ := hcut
      have hw2 := hw.symm
      clear hw
      subst hw2
      cases hfx : (fixedR ⟨b, false⟩).bad with
      | true =>
        --BEGIN D
        have HD := hide (dec_nohead HNM.out hfx)
        rw [hfx] at hc
        subst hc
        clear hfx HEL HM HNM HCAP HCM HNO HR
        obtain ⟨WF, hWF⟩ : ∃ WF, set4 W1 w.heap.size (.slice none 0 0) (.slice none 0 0) (.slice none 0 0) (.slice none 0 0) = WF := ⟨_, rfl⟩
        obtain ⟨y0, y1, y2, y3⟩ : WF.cell? ⟨w.heap.size, 0, none⟩ = some (.slice none 0 0) ∧ WF.cell? ⟨w.heap.size, 1, none⟩ = some (.slice none 0 0) ∧ WF.cell? ⟨w.heap.size, 2, none⟩ = some (.slice none 0 0) ∧ WF.cell? ⟨w.heap.size, 3, none⟩ = some (.slice none 0 0) := by rw [← hWF]; exact set4_cells E1.out _ _ _ _
        have HBF := hide (show Below w.heap.size w WF from hWF ▸ set4_below B1.out (Nat.le_refl _) _ _ _ _)
        unfold set4 at hWF
        go_wp2
        refine bodyPost_ret (by simp [results, Try.results14, go_sem, y0, y1, y2, y3]; try rfl) rfl ?_
        rw [HD.out]
        exact ⟨_, _, _, _, rfl, pg0_at _ _, HBF.out⟩
        --END D
      | false =>
        obtain ⟨hb3, hfix⟩ := fixed_good hfx
        rw [hfx] at hc
        subst hc
        have HFX := hide hfix
        have HFB := hide hfx
        have hb3' : (3 : Int) ≤ (b.length : Int) := by omega
        have HB3 := hide hb3
        clear hfix hfx hb3
        have HV1 := hide (show cap = 3 → BytesAt B w (.slice ao (b.length - 3) 0) (b.drop 3) from fun hc => by
          have he : b.drop 3 = [] := List.drop_eq_nil_of_le (by have := HCAP.out; omega)
          refine ⟨ao, 0, by rw [he, List.length_nil, Nat.sub_eq_zero_of_le (by have := HCAP.out; omega)], by rw [he]; simp, by decide, fun _ => rfl, (fun _ _ => trivial), fun j b hb => ?_⟩
          rw [he] at hb
          simp at hb)
        have HV2 := hide (show BytesAt B w (.slice (Option.map (fun x => x.add 3) ao) (b.length - 3) (cap - 3)) (b.drop 3) from by
          have h1 := HCAP.out
          have h2 := HCM.out
          have h3 := HB3.out
          refine ⟨_, _, by rw [List.length_drop], by rw [List.length_drop]; omega, by omega, (by intro h; cases ao with | none => (have := HNO.out rfl; omega) | some a => simp at h), (fun _ _ => trivial), fun j b hb => ?_⟩
          rw [List.getElem?_drop] at hb
          obtain ⟨g', o', h7, h8, h9⟩ := HEL.out _ b hb
          subst h7
          refine ⟨g', o' + 3, ?_, h8, by rw [Nat.add_assoc]; exact h9⟩
          simp [Addr.add])
        have HCAP3 := hide (show ¬ cap = 3 → (3 : Int) < (cap : Int) from fun h => by have := HCAP.out; have := HB3.out; omega)
        clear HEL HNO HCAP HCM
        have HBL := hide (show ((b.length - 3 : Nat) : Int) = (b.length : Int) - 3 by have := HB3.out; omega)
        generalize hbl : b.length = bl at *
        go_upto_region 5 with (fail)
        go_cut [4] from 43 to 46 (fun v wx => v = .pointer (some ⟨W1.heap.size, 0, none⟩) ∧ Hid (∃ vv, wx = W1.alloc (.cells #[vv, .bool false] 74) ∧ BytesAt B w vv (b.drop 3)))
        case first =>
          --BEGIN E
          by_cases hc3 : cap = 3
          · subst hc3
            have HV := hide (HV1.out rfl)
            go_wp2
            go_meet
            exact ⟨rfl, hide ⟨_, rfl, HV.out⟩⟩
          · have h3 := HCAP3.out hc3
            go_wp2
            go_meet
            exact ⟨rfl, hide ⟨_, rfl, HV2.out⟩⟩
          --END E
        case rest =>
          obtain ⟨hv4, hx4⟩ := hcut
          subst hv4
          obtain ⟨vv, hwc, hbv⟩ := hx4.out
          obtain ⟨ra, rc, hvv, -⟩ := id hbv
          have Z2 := hide (show wc.heap.size = w.heap.size + 2 by rw [hwc]; have := Z1.out; simp; omega)
          obtain ⟨W3, hW3⟩ : ∃ W3, wc.alloc (.cells #[.slice none 0 0, .slice none 0 0, .slice none 0 0, .slice none 0 0] 27) = W3 := ⟨_, rfl⟩
          have e3 : W3.heap[wc.heap.size]? = some (.cells #[.slice none 0 0, .slice none 0 0, .slice none 0 0, .slice none 0 0] 27 (0, 0)) := by rw [← hW3]; exact heap_new _ _ rfl
          have p0 : W3.cell? ⟨wc.heap.size, 0, none⟩ = some (.slice none 0 0) := cell_of e3 rfl
          have p1 : W3.cell? ⟨wc.heap.size, 1, none⟩ = some (.slice none 0 0) := cell_of e3 rfl
          have p2 : W3.cell? ⟨wc.heap.size, 2, none⟩ = some (.slice none 0 0) := cell_of e3 rfl
          have p3 : W3.cell? ⟨wc.heap.size, 3, none⟩ = some (.slice none 0 0) := cell_of e3 rfl
          have q0 : W3.frozen? ⟨wc.heap.size, 0, none⟩ = false := by simp [World.frozen?, e3]
          have q1 : W3.frozen? ⟨wc.heap.size, 1, none⟩ = false := by simp [World.frozen?, e3]
          have q2 : W3.frozen? ⟨wc.heap.size, 2, none⟩ = false := by simp [World.frozen?, e3]
          have q3 : W3.frozen? ⟨wc.heap.size, 3, none⟩ = false := by simp [World.frozen?, e3]
          have hlt3 : wc.heap.size < W3.heap.size := lt_of_block e3
          obtain ⟨W4, hW4⟩ : ∃ W4, set4 W3 wc.heap.size (.slice none 0 0) (.slice none 0 0) (.slice none 0 0) (.slice none 0 0) = W4 := ⟨_, rfl⟩
          have G := hide (show Geo B w.heap.size W1.heap.size wc.heap.size (w.heap.size + 3) w from ⟨rfl, HBB.out, Z1.out, Z2.out, rfl⟩)
          have S0 := hide (show DS B w.heap.size W1.heap.size wc.heap.size (w.heap.size + 3) w [] [] [] [] ⟨b.drop 3, false⟩ W4 from by
            have z1 := Z1.out
            have z2 := Z2.out
            have hB3 : Below w.heap.size w W3 := by
              rw [← hW3, hwc]
              exact (B1.out.alloc (by omega) _).alloc (by simp; omega) _
            have hz3 : W3.heap.size = w.heap.size + 3 := by rw [← hW3]; simp; omega
            have hz4 : W4.heap.size = W3.heap.size := by rw [← hW4]; simp [set4]
            have eA : W3.heap[W1.heap.size]? = some (.cells #[vv, .bool false] 74 (0, 0)) := by
              rw [← hW3, Below.heap_alloc _ _ _ (by omega), hwc]; exact heap_new _ _ rfl
            have eR : W3.heap[w.heap.size]? = some (.cells #[.slice none 0 0, .slice none 0 0, .slice none 0 0, .slice none 0 0] 27 (0, 0)) := by
              rw [← hW3, Below.heap_alloc _ _ _ (by omega), hwc, Below.heap_alloc _ _ _ (by omega)]; exact E1.out
            have h4 : ∀ j, j ≠ wc.heap.size → W4.heap[j]? = W3.heap[j]? := fun j hj => by rw [← hW4]; exact set4_other _ _ _ _ hj
            have eP : W4.heap[wc.heap.size]? = some (.cells #[.slice none 0 0, .slice none 0 0, .slice none 0 0, .slice none 0 0] 27 (0, 0)) := by
              rw [← hW4]
              have h1 := heap_setCell_same W3 wc.heap.size 0 (.slice none 0 0) e3
              have h2 := heap_setCell_same _ wc.heap.size 1 (.slice none 0 0) h1
              have h3 := heap_setCell_same _ wc.heap.size 2 (.slice none 0 0) h2
              have h4 := heap_setCell_same _ wc.heap.size 3 (.slice none 0 0) h3
              exact h4
            have nilR : ∀ {α : Type} (T k : Nat) (P : World → List Value → α → Prop), RowP T k P (w.heap.size + 3) W4 (.slice none 0 0) ([] : List α) := fun T k P => ⟨[], ⟨by simp, .inl ⟨rfl, rfl⟩⟩, fun j x h => by simp at h⟩
            refine ⟨⟨by have := HBB.out; omega, vv, (h4 _ (by omega)).trans eA, hbv.keep fun j hj => ?_⟩, by rw [List.length_drop]; have := HM.out; omega, ⟨_, _, _, _, eP, nilR _ _ _, nilR _ _ _, nilR _ _ _, nilR _ _ _⟩, (h4 _ (by omega)).trans eR, ?_, by omega⟩
            · have := HBB.out
              exact (h4 j (by omega)).trans (hB3.block j (by omega))
            · rw [← hW4]; exact set4_below hB3 (by omega) _ _ _ _)
          have HB4 := hide (show W3.heap.size ≤ W4.heap.size by rw [← hW4]; simp [set4])
          unfold set4 at hW4
          clear hx4 hwc hbv s0 s1 s2 s3 f0 f1 f2 f3 e3 HV1 HV2 HCAP3
          go_upto_region 7 with (fail)
          clear hW4 hW3 hW1 p0 p1 p2 p3 q0 q1 q2 q3 hlt3 hlt1
          generalize hA : W1.heap.size = A at *
          generalize hpb : wc.heap.size = pb at *
          generalize hrb : w.heap.size = rb at *
          obtain ⟨N, hN⟩ : ∃ N, rb + 3 = N := ⟨_, rfl⟩
          rw [hN] at G S0
          have HRB := hide hrb
          clear hA hpb hN hrb hvv
          have C1 := hide (dcount_any S0.out.rd S0.out.rl)
          go_wp2_with fail
          refine C1.out.mono ?_
          rintro e wa ⟨n1, s1, rfl, L1, F1, hle1, hag1⟩
          have S1 := hide (S0.out.go G.out F1 L1 hle1)
          have A1 := hide (show CntA ⟨b.drop 3, false⟩ n1 s1 from hag1)
          have N1 := hide (A1.out.le S1.out.rl)
          have n1b : (n1 : Int) ≤ 4194304 := by have := N1.out; omega
          clear C1 L1 F1 hle1 hag1 S0
          go_upto_block 0 with (fail)
          go_cut [] from 50 to 69 (fun wx => Hid (∃ l1 s2, DS B rb A pb N w l1 [] [] [] s2 wx ∧ Agl (lstR intsR) ⟨b.drop 3, false⟩ l1 s2))
          case first =>
            --BEGIN F
            go_wp2_with fail
            go_loopw [7] (fun a wr => D1R B rb A pb N w n1 s1 a wr) (fun a _ => n1 - (intOf a).toNat)
            case atStart => exact ⟨[], s1, rfl, Nat.zero_le _, S1.out, LpA.start _ _ _⟩
            case round =>
              obtain ⟨l, s2, rfl, hln, hS, hL⟩ := hrel
              have HS := hide hS
              have HL := hide hL
              have HLN := hide hln
              obtain ⟨_, vr, h2, _⟩ := id hS.rd
              have c1 : wr.cell? ⟨A, 1, none⟩ = some (.bool s2.bad) := cell_of h2 rfl
              have FIN := hide (show (s2.bad = true ∨ n1 ≤ l.length) → ∃ l1 s2, DS B rb A pb N w l1 [] [] [] s2 wr ∧ Agl (lstR intsR) ⟨b.drop 3, false⟩ l1 s2 from fun hf => ⟨l, s2, HS.out, HL.out.fin intsR_eats A1.out hf⟩)
              clear h2 hL
              by_cases hlt : l.length < n1
              · have d1 : decide ((l.length : Int) < (n1 : Int)) = true := by simp; omega
                have d2 : decide (l.length < n1) = true := by simpa using hlt
                cases hbad : s2.bad with
                | true =>
                  rw [hbad] at c1
                  have HBD := hide hbad
                  clear hS hln hlt hbad
                  generalize l.length = ll at *
                  go_wp2
                  go_meet
                  exact hide (FIN.out (.inl HBD.out))
                | false =>
                  rw [hbad] at c1
                  have HBD := hide hbad
                  obtain ⟨v1, v2, v3, v4, ep, R1, R2, R3, R4⟩ := id hS.p
                  obtain ⟨xs1, hR1, _⟩ := R1
                  obtain ⟨va, vc, hv1⟩ := row_form hR1
                  subst hv1
                  have cp : wr.cell? ⟨pb, 0, none⟩ = some (.slice va l.length vc) := cell_of ep rfl
                  have EP := hide ep
                  have C2 := hide (dints_any hS.drew.rd hS.rl)
                  have HLT := hide hlt
                  clear hS ep R2 R3 R4 hR1 hln hbad FIN
                  have HLL := hide (show l.length ≤ 8000000 by have := HLT.out; have := N1.out; omega)
                  have NXT := hide (show ∀ x s3, Agl intsR s2 x s3 → LpA intsR n1 s1 (l ++ [x]) s3 from fun x s3 h => HL.out.next HBD.out HLT.out h)
                  have llb : (l.length : Int) ≤ 4194304 := by have := HLL.out; have := HLT.out; have := N1.out; omega
                  generalize hll : l.length = ll at *
                  have HLLE := hide hll
                  clear hll
                  go_wp2_with fail
                  go_region_law (first
                    | (go_simp; refine C2.out.mono ?_; rintro e w3 ⟨u, x, s3, rfl, Rx, L3, F3, hle3, hag3⟩; obtain ⟨xsu, hRu, hcu⟩ := Rx; obtain ⟨ua, uc, hu⟩ := row_form hRu; subst hu; obtain ⟨g5, cap5, w5, hrun, k0, k1, k2, S5⟩ := HS.out.drew.push1 G.out EP.out F3 L3 (Nat.le_trans hle3 HS.out.rl) (cs := [.slice ua x.length uc]) (x := x) rfl (by simp [Value.oneCell']) ⟨_, rfl, RowP.base0 ⟨xsu, hRu, hcu⟩⟩ (by rw [HLLE.out]; exact HLL.out) 22; rw [HLLE.out] at hrun S5; have HRUN := hide hrun; have HS5 := hide S5; have HAG := hide hag3; have cp3 : w3.cell? ⟨pb, 0, none⟩ = some (.slice va ll vc) := (World.cell?_of_block (a := ⟨pb, 0, none⟩) (F3.block pb (lt_of_block EP.out) (by have h1 := G.out.a; have h2 := G.out.p; omega))).trans cp; have hp3 : pb < w3.heap.size := World.block_lt_of_cell? w3 _ cp3; clear hrun S5 hag3 hle3 L3 F3 hRu hcu; generalize x.length = xl at *)
                    | (refine step_append_eq (by rfl) _ _ 22 22 (by rfl) (by rfl) (by rfl) HRUN.out ?_))
                  all_goals (
                    generalize hW6 : w5.setCell ⟨pb, 0, none⟩ (.slice (some ⟨g5, 0, none⟩) (ll + 1) cap5) = W6 at *
                    clear hW6 k0 k1 k2 cp cp3 hp3 c1
                    go_wp2
                    go_roundw
                    case rel =>
                      refine ⟨l ++ [x], s3, ?_, ?_, HS5.out, NXT.out _ _ HAG.out⟩
                      · rw [List.length_append, List.length_singleton, HLLE.out]; go_num
                      · rw [List.length_append, List.length_singleton, HLLE.out]; exact hlt
                    case measure => rw [intOf_int]; simp [intOf]; omega)
              · have d1 : decide ((l.length : Int) < (n1 : Int)) = false := by simp; omega
                have d2 : decide (l.length < n1) = false := by simpa using hlt
                have HGe := hide (show n1 ≤ l.length by omega)
                clear hS hln hlt
                generalize l.length = ll at *
                go_wp2
                go_meet
                exact hide (FIN.out (.inr HGe.out))
            --END F
          case rest =>
            obtain ⟨l1, s2, hS, hA⟩ := hcut.out
            have S2 := hide hS
            have A2 := hide hA
            have C1 := hide (dcount_any hS.rd hS.rl)
            clear hcut hS hA S1 A1 N1 n1b
            go_wp2_with fail
            refine C1.out.mono ?_
            rintro e wb ⟨n2, s3, rfl, L1, F1, hle1, hag1⟩
            have S3 := hide (S2.out.go G.out F1 L1 hle1)
            have A3 := hide (show CntA s2 n2 s3 from hag1)
            have N2 := hide (A3.out.le S3.out.rl)
            have n2b : (n2 : Int) ≤ 4194304 := by have := N2.out; omega
            clear C1 L1 F1 hle1 hag1 S2
            go_upto_block 2 with (fail)
            go_cut [] from 72 to 129 (fun wx => Hid (∃ l2 s4, DS B rb A pb N w l1 l2 [] [] s4 wx ∧ Agl (lstR fdR) s2 l2 s4))
            case first =>
              --BEGIN H
              go_wp2_with fail
              go_loopw [8] (fun a wr => D2R B rb A pb N w l1 n2 s3 a wr) (fun a _ => n2 - (intOf a).toNat)
              case atStart => exact ⟨[], s3, rfl, Nat.zero_le _, S3.out, LpA.start _ _ _⟩
              case round =>
                obtain ⟨wo, hwo⟩ : ∃ wo, wo = wr := ⟨_, rfl⟩
                subst hwo
                obtain ⟨l, s4, rfl, hln, hS, hL⟩ := hrel
                have HS := hide hS
                have HL := hide hL
                have HLN := hide hln
                obtain ⟨_, vr, h2, _⟩ := id hS.rd
                have c1 : wo.cell? ⟨A, 1, none⟩ = some (.bool s4.bad) := cell_of h2 rfl
                have FIN := hide (show (s4.bad = true ∨ n2 ≤ l.length) → ∃ l2 s5, DS B rb A pb N w l1 l2 [] [] s5 wo ∧ Agl (lstR fdR) s2 l2 s5 from fun hf => ⟨l, s4, HS.out, HL.out.fin fdR_eats A3.out hf⟩)
                clear h2 hL
                by_cases hlt : l.length < n2
                · have d1 : decide ((l.length : Int) < (n2 : Int)) = true := by simp; omega
                  have d2 : decide (l.length < n2) = true := by simpa using hlt
                  cases hbad : s4.bad with
                  | true =>
                    rw [hbad] at c1
                    have HBD := hide hbad
                    clear hS hln hlt hbad
                    generalize l.length = ll at *
                    go_wp2
                    go_meet
                    exact hide (FIN.out (.inl HBD.out))
                  | false =>
                    rw [hbad] at c1
                    have HBD := hide hbad
                    obtain ⟨v1, v2, v3, v4, ep, R1, R2, R3, R4⟩ := id hS.p
                    obtain ⟨xs2, hR2, _⟩ := R2
                    obtain ⟨va, vc, hv2⟩ := row_form hR2
                    subst hv2
                    have CP := hide (show wo.cell? ⟨pb, 1, none⟩ = some (.slice va l.length vc) from cell_of ep rfl)
                    have EP := hide ep
                    have CN := hide (dnum_any hS.rd hS.rl)
                    have HLT := hide hlt
                    have HAw := hide hS.rd.lt
                    clear hS ep R1 R3 R4 hR2 hln hbad FIN
                    have HLL := hide (show l.length ≤ 8000000 by have := HLT.out; have := N2.out; omega)
                    have NXT := hide (show ∀ x s3', Agl fdR s4 x s3' → LpA fdR n2 s3 (l ++ [x]) s3' from fun x s3' h => HL.out.next HBD.out HLT.out h)
                    have llb : (l.length : Int) ≤ 4194304 := by have := HLL.out; have := HLT.out; have := N2.out; omega
                    generalize hll : l.length = ll at *
                    have HLLE := hide hll
                    clear hll
                    go_wp2_with fail
                    refine CN.out.mono ?_
                    rintro e w1 ⟨pa, sa, rfl, La, Ga, Fa, hpa⟩
                    have GA := hide Ga
                    have HPA := hide hpa
                    obtain ⟨W2, hW2⟩ : ∃ W2, w1.alloc (.cells #[.int .i64 0, .slice none 0 0, .slice none 0 0, .slice none 0 0, .slice none 0 0] 58) = W2 := ⟨_, rfl⟩
                    have e2 : W2.heap[w1.heap.size]? = some (.cells #[.int .i64 0, .slice none 0 0, .slice none 0 0, .slice none 0 0, .slice none 0 0] 58 (0, 0)) := by rw [← hW2]; exact heap_new _ _ rfl
                    have x0 : W2.cell? ⟨w1.heap.size, 0, none⟩ = some (.int .i64 0) := cell_of e2 rfl
                    have x1 : W2.cell? ⟨w1.heap.size, 1, none⟩ = some (.slice none 0 0) := cell_of e2 rfl
                    have x2 : W2.cell? ⟨w1.heap.size, 2, none⟩ = some (.slice none 0 0) := cell_of e2 rfl
                    have x3 : W2.cell? ⟨w1.heap.size, 3, none⟩ = some (.slice none 0 0) := cell_of e2 rfl
                    have x4 : W2.cell? ⟨w1.heap.size, 4, none⟩ = some (.slice none 0 0) := cell_of e2 rfl
                    have y0 : W2.frozen? ⟨w1.heap.size, 0, none⟩ = false := by simp [World.frozen?, e2]
                    have y1 : W2.frozen? ⟨w1.heap.size, 1, none⟩ = false := by simp [World.frozen?, e2]
                    have y2 : W2.frozen? ⟨w1.heap.size, 2, none⟩ = false := by simp [World.frozen?, e2]
                    have y3 : W2.frozen? ⟨w1.heap.size, 3, none⟩ = false := by simp [World.frozen?, e2]
                    have y4 : W2.frozen? ⟨w1.heap.size, 4, none⟩ = false := by simp [World.frozen?, e2]
                    have hlt2 : w1.heap.size < W2.heap.size := lt_of_block e2
                    obtain ⟨W3, hW3⟩ : ∃ W3, set5 W2 w1.heap.size (.int .i64 pa) (.slice none 0 0) (.slice none 0 0) (.slice none 0 0) (.slice none 0 0) = W3 := ⟨_, rfl⟩
                    have F3 := hide (show FS B A w1.heap.size wo pa (.slice none 0 0) (.slice none 0 0) (.slice none 0 0) (.slice none 0 0) [] [] [] [] sa W3 from by
                      rw [← hW3, ← hW2]
                      exact fs_init La (Nat.le_trans Ga.less HS.out.rl) Fa HAw.out pa)
                    unfold set5 at hW3
                    clear La Ga Fa hpa e2 CN
                    go_wp2_with fail
                    clear hW2 hW3 x0 x1 x2 x3 x4 y0 y1 y2 y3 y4 hlt2
                    generalize w1.heap.size = fb at *
                    refine (dints_any F3.out.rd F3.out.rl).mono ?_
                    rintro e w4 ⟨u1, lo, sb, rfl, Ru1, L4, G4, hle4, hag4⟩
                    have F4 := hide (F3.out.go G4 L4 hle4)
                    have AG1 := hide (show Agl intsR sa lo sb from hag4)
                    have RU1 := hide Ru1.base0
                    obtain ⟨xs, hr, _⟩ := Ru1
                    obtain ⟨a1, k1, hu1⟩ := row_form hr
                    subst hu1
                    clear L4 G4 hle4 hag4 hr F3
                    go_wp2_with fail
                    refine (dints_any F4.out.rd F4.out.rl).mono ?_
                    rintro e w5 ⟨u2, re, sc, rfl, Ru2, L5, G5, hle5, hag5⟩
                    have F5 := hide (F4.out.go G5 L5 hle5)
                    have AG2 := hide (show Agl intsR sb re sc from hag5)
                    have RU2 := hide Ru2.base0
                    have RU1' := hide (RU1.out.keep (int_keep _) (by decide) (G5.smr F4.out.rd))
                    obtain ⟨xs, hr, _⟩ := Ru2
                    obtain ⟨a2, k2, hu2⟩ := row_form hr
                    subst hu2
                    clear L5 G5 hle5 hag5 hr F4 RU1
                    go_wp2_with fail
                    refine (dints_any F5.out.rd F5.out.rl).mono ?_
                    rintro e w6 ⟨u3, ar, sd, rfl, Ru3, L6, G6, hle6, hag6⟩
                    have F6 := hide (F5.out.go G6 L6 hle6)
                    have AG3 := hide (show Agl intsR sc ar sd from hag6)
                    have RU3 := hide Ru3.base0
                    have RU1 := hide (RU1'.out.keep (int_keep _) (by decide) (G6.smr F5.out.rd))
                    have RU2' := hide (RU2.out.keep (int_keep _) (by decide) (G6.smr F5.out.rd))
                    obtain ⟨xs, hr, _⟩ := Ru3
                    obtain ⟨a3, k3, hu3⟩ := row_form hr
                    subst hu3
                    clear L6 G6 hle6 hag6 hr F5 RU1' RU2
                    have e6 := F6.out.bx
                    have x1 : w6.cell? ⟨fb, 1, none⟩ = some (.slice none 0 0) := cell_of e6 rfl
                    have x2 : w6.cell? ⟨fb, 2, none⟩ = some (.slice none 0 0) := cell_of e6 rfl
                    have x3 : w6.cell? ⟨fb, 3, none⟩ = some (.slice none 0 0) := cell_of e6 rfl
                    have y1 : w6.frozen? ⟨fb, 1, none⟩ = false := by simp [World.frozen?, e6]
                    have y2 : w6.frozen? ⟨fb, 2, none⟩ = false := by simp [World.frozen?, e6]
                    have y3 : w6.frozen? ⟨fb, 3, none⟩ = false := by simp [World.frozen?, e6]
                    have hlt6 : fb < w6.heap.size := lt_of_block e6
                    have F7' := hide (F6.out.three RU1.out RU2'.out RU3.out)
                    obtain ⟨W7, hW7⟩ : ∃ W7, set3 w6 fb (.slice a1 lo.length k1) (.slice a2 re.length k2) (.slice a3 ar.length k3) = W7 := ⟨_, rfl⟩
                    rw [hW7] at F7'
                    have F7 := F7'
                    unfold set3 at hW7
                    clear e6 F6 F7' RU1 RU2' RU3
                    generalize hz1 : lo.length = z1 at *
                    generalize hz2 : re.length = z2 at *
                    generalize hz3 : ar.length = z3 at *
                    clear hz1 hz2 hz3
                    go_wp2_with fail
                    clear hW7 x1 x2 x3 y1 y2 y3 hlt6
                    refine (dcount_any F7.out.rd F7.out.rl).mono ?_
                    rintro e w8 ⟨m, se, rfl, L8, G8, hle8, hag8⟩
                    have F8 := hide (F7.out.go G8 L8 hle8)
                    have A8 := hide (show CntA sd m se from hag8)
                    have M8 := hide (A8.out.le F8.out.rl)
                    have m8b : (m : Int) ≤ 4194304 := by have := M8.out; omega
                    clear L8 G8 hle8 hag8 F7
                    go_upto_block 4 with (fail)
                    go_cut [] from 98 to 123 (fun wx => Hid (∃ v4' co sf, FS B A fb wo pa (.slice a1 z1 k1) (.slice a2 z2 k2) (.slice a3 z3 k3) v4' lo re ar co sf wx ∧ Agl (lstR insR) sd co sf))
                    case first =>
                      --BEGIN I
                      go_wp2_with fail
                      go_loopw [11] (fun a wr => DIR B A fb wo pa (.slice a1 z1 k1) (.slice a2 z2 k2) (.slice a3 z3 k3) lo re ar m se a wr) (fun a _ => m - (intOf a).toNat)
                      case atStart => exact ⟨_, [], se, rfl, Nat.zero_le _, F8.out, LpA.start _ _ _⟩
                      case round =>
                        obtain ⟨v4', co, sf, rfl, hcn, hF, hLi⟩ := hrel
                        have HF := hide hF
                        have HLi := hide hLi
                        obtain ⟨_, vr, h2, _⟩ := id hF.rd
                        have ci : wr.cell? ⟨A, 1, none⟩ = some (.bool sf.bad) := cell_of h2 rfl
                        have FIN := hide (show (sf.bad = true ∨ m ≤ co.length) → ∃ v4' co sf, FS B A fb wo pa (.slice a1 z1 k1) (.slice a2 z2 k2) (.slice a3 z3 k3) v4' lo re ar co sf wr ∧ Agl (lstR insR) sd co sf from fun hf => ⟨v4', co, sf, HF.out, HLi.out.fin insR_eats A8.out hf⟩)
                        clear h2 hLi
                        by_cases hlti : co.length < m
                        · have d3 : decide ((co.length : Int) < (m : Int)) = true := by simp; omega
                          have d4 : decide (co.length < m) = true := by simpa using hlti
                          cases hbad : sf.bad with
                          | true =>
                            rw [hbad] at ci
                            have HBD2 := hide hbad
                            clear hF hcn hlti hbad
                            generalize co.length = cl at *
                            go_wp2
                            go_meet
                            exact hide (FIN.out (.inl HBD2.out))
                          | false =>
                            rw [hbad] at ci
                            have HBD2 := hide hbad
                            have HCL := hide hlti
                            have NXI := hide (show ∀ x s3', Agl insR sf x s3' → LpA insR m se (co ++ [x]) s3' from fun x s3' h => HLi.out.next HBD2.out HCL.out h)
                            have CN := hide (dnum_any hF.rd hF.rl)
                            have clb : (co.length : Int) ≤ 4194304 := by have := HCL.out; have := M8.out; omega
                            have HCO := hide (show co.length ≤ 8000000 by have := HCL.out; have := M8.out; omega)
                            obtain ⟨xs, hr, _⟩ := id hF.r4
                            obtain ⟨a4, k4, hv4⟩ := row_form hr
                            subst hv4
                            clear hF hcn hbad FIN hr
                            generalize hcl : co.length = cl at *
                            have HCLE := hide hcl
                            clear hcl
                            go_wp2_with fail
                            refine CN.out.mono ?_
                            rintro e w9 ⟨io, sg, rfl, Lg, Gg, Fg, hio⟩
                            have F9 := hide (HF.out.go Fg Lg Gg.less)
                            have GG := hide Gg
                            have HIO := hide hio
                            have CN2 := hide (dnum_any F9.out.rd F9.out.rl)
                            clear Lg Gg Fg hio CN
                            go_wp2_with fail
                            refine CN2.out.mono ?_
                            rintro e wx ⟨ia, sh, rfl, Lh, Gh, Fh, hia⟩
                            have FX := hide (F9.out.go Fh Lh Gh.less)
                            have GH := hide Gh
                            have HIA := hide hia
                            have CN3 := hide (dnum_any FX.out.drew.rd FX.out.rl)
                            have cf : wx.cell? ⟨fb, 4, none⟩ = some (.slice a4 cl k4) := cell_of FX.out.bx rfl
                            clear Lh Gh Fh hia CN2 F9 ci
                            go_wp2_with fail
                            go_region_law (first
                              | (go_simp; refine CN3.out.mono ?_; rintro e w3 ⟨ib, si, rfl, Li, Gi, Fi, hib⟩; obtain ⟨g5, cap5, w5', hrun, j0, j1, j2, S5⟩ := FX.out.drew.push Fi Li Gi.less (x := ⟨io, ia, ib⟩) ⟨HIO.out, HIA.out, hib⟩ (by rw [HCLE.out]; exact HCO.out) 56; rw [HCLE.out] at hrun S5; have HRUN := hide hrun; have HS5 := hide S5; have HAGI := hide (agl_ins GG.out.agl GH.out.agl Gi.agl); have cf3 : w3.cell? ⟨fb, 4, none⟩ = some (.slice a4 cl k4) := (World.cell?_of_block (a := ⟨fb, 4, none⟩) (Fi.block fb (lt_of_block FX.out.bx) (by have h1 := FX.out.wl; have h2 := FX.out.al; omega))).trans cf; have hp3 : fb < w3.heap.size := World.block_lt_of_cell? w3 _ cf3; clear hrun S5 Li Gi Fi hib)
                              | (refine step_append_eq (by rfl) _ _ 56 56 (by rfl) (by rfl) (by rfl) HRUN.out ?_))
                            all_goals (
                              generalize hW6 : w5'.setCell ⟨fb, 4, none⟩ (.slice (some ⟨g5, 0, none⟩) (cl + 1) cap5) = W6 at *
                              clear hW6 j0 j1 j2 cf cf3 hp3
                              go_wp2
                              go_roundw
                              case rel =>
                                refine ⟨_, co ++ [⟨io, ia, ib⟩], si, ?_, ?_, HS5.out, NXI.out _ _ HAGI.out⟩
                                · rw [List.length_append, List.length_singleton, HCLE.out]; go_num
                                · rw [List.length_append, List.length_singleton, HCLE.out]; exact hlti
                              case measure => rw [intOf_int]; simp [intOf]; omega)
                        · have d3 : decide ((co.length : Int) < (m : Int)) = false := by simp; omega
                          have d4 : decide (co.length < m) = false := by simpa using hlti
                          have HGe := hide (show m ≤ co.length by omega)
                          clear hF hcn hlti
                          generalize co.length = cl at *
                          go_wp2
                          go_meet
                          exact hide (FIN.out (.inr HGe.out))
                      --END I
                    case rest =>
                      --BEGIN J
                      obtain ⟨v4', co, sf, hF, hAg⟩ := hcut.out
                      have HF := hide hF
                      have AGF := hide (agl_fd GA.out.agl AG1.out AG2.out AG3.out hAg)
                      obtain ⟨xs, hr, _⟩ := id hF.r4
                      obtain ⟨a4, k4, hv4⟩ := row_form hr
                      subst hv4
                      obtain ⟨g5, cap5, w5', hrun, j0, j1, j2, S5⟩ := HS.out.push2 G.out EP.out hF.fr hF.rd hF.rl (cs := [.int .i64 pa, .slice a1 z1 k1, .slice a2 z2 k2, .slice a3 z3 k3, .slice a4 co.length k4]) (x := ⟨pa, lo, re, ar, co⟩) rfl (by simp [Value.oneCell']) (hF.rfd HPA.out) (by rw [HLLE.out]; exact HLL.out) 23
                      rw [HLLE.out] at hrun S5
                      have HRUN := hide hrun
                      have HS5 := hide S5
                      have ef := hF.bx
                      have x0 : wc.cell? ⟨fb, 0, none⟩ = some (.int .i64 pa) := cell_of ef rfl
                      have x1 : wc.cell? ⟨fb, 1, none⟩ = some (.slice a1 z1 k1) := cell_of ef rfl
                      have x2 : wc.cell? ⟨fb, 2, none⟩ = some (.slice a2 z2 k2) := cell_of ef rfl
                      have x3 : wc.cell? ⟨fb, 3, none⟩ = some (.slice a3 z3 k3) := cell_of ef rfl
                      have x4 : wc.cell? ⟨fb, 4, none⟩ = some (.slice a4 co.length k4) := cell_of ef rfl
                      have cpc : wc.cell? ⟨pb, 1, none⟩ = some (.slice va ll vc) := (World.cell?_of_block (a := ⟨pb, 1, none⟩) (hF.fr.block pb (lt_of_block EP.out) (by have h1 := G.out.a; have h2 := G.out.p; omega))).trans CP.out
                      clear hcut hF hAg hr hrun S5 ef
                      generalize co.length = cl at *
                      go_wp2_with (at_builtin; refine wpList_append_eq rfl _ _ 23 23 rfl rfl rfl HRUN.out ?_)
                      generalize hW6 : w5'.setCell ⟨pb, 1, none⟩ (.slice (some ⟨g5, 0, none⟩) (ll + 1) cap5) = W6 at *
                      clear hW6 j0 j1 j2 x0 x1 x2 x3 x4 cpc
                      go_wp2
                      go_roundw
                      case rel =>
                        refine ⟨l ++ [⟨pa, lo, re, ar, co⟩], sf, ?_, ?_, HS5.out, NXT.out _ _ AGF.out⟩
                        · rw [List.length_append, List.length_singleton, HLLE.out]; go_num
                        · rw [List.length_append, List.length_singleton, HLLE.out]; exact hlt
                      case measure => rw [intOf_int]; simp [intOf]; omega
                      --END J
                · have d1 : decide ((l.length : Int) < (n2 : Int)) = false := by simp; omega
                  have d2 : decide (l.length < n2) = false := by simpa using hlt
                  have HGe := hide (show n2 ≤ l.length by omega)
                  clear hS hln hlt
                  generalize l.length = ll at *
                  go_wp2
                  go_meet
                  exact hide (FIN.out (.inr HGe.out))
              --END H
            case rest =>
              obtain ⟨l2, s4, hS, hA⟩ := hcut.out
              have S4 := hide hS
              have A4 := hide hA
              have C1 := hide (dcount_any hS.rd hS.rl)
              clear hcut hS hA S3 A3 N2 n2b
              go_wp2_with fail
              refine C1.out.mono ?_
              rintro e wd ⟨n3, s5, rfl, L1, F1, hle1, hag1⟩
              have S5 := hide (S4.out.go G.out F1 L1 hle1)
              have A5 := hide (show CntA s4 n3 s5 from hag1)
              have N3 := hide (A5.out.le S5.out.rl)
              have n3b : (n3 : Int) ≤ 4194304 := by have := N3.out; omega
              clear C1 L1 F1 hle1 hag1 S4
              go_upto_block 6 with (fail)
              go_cut [] from 132 to 150 (fun wx => Hid (∃ l3 s6, DS B rb A pb N w l1 l2 l3 [] s6 wx ∧ Agl (lstR intsR) s4 l3 s6))
              case first =>
                --BEGIN K
                go_wp2_with fail
                go_loopw [14] (fun a wr => D3R B rb A pb N w l1 l2 n3 s5 a wr) (fun a _ => n3 - (intOf a).toNat)
                case atStart => exact ⟨[], s5, rfl, Nat.zero_le _, S5.out, LpA.start _ _ _⟩
                case round =>
                  obtain ⟨l, s6, rfl, hln, hS, hL⟩ := hrel
                  have HS := hide hS
                  have HL := hide hL
                  have HLN := hide hln
                  obtain ⟨_, vr, h2, _⟩ := id hS.rd
                  have c1 : wr.cell? ⟨A, 1, none⟩ = some (.bool s6.bad) := cell_of h2 rfl
                  have FIN := hide (show (s6.bad = true ∨ n3 ≤ l.length) → ∃ l3 s6, DS B rb A pb N w l1 l2 l3 [] s6 wr ∧ Agl (lstR intsR) s4 l3 s6 from fun hf => ⟨l, s6, HS.out, HL.out.fin intsR_eats A5.out hf⟩)
                  clear h2 hL
                  by_cases hlt : l.length < n3
                  · have d1 : decide ((l.length : Int) < (n3 : Int)) = true := by simp; omega
                    have d2 : decide (l.length < n3) = true := by simpa using hlt
                    cases hbad : s6.bad with
                    | true =>
                      rw [hbad] at c1
                      have HBD := hide hbad
                      clear hS hln hlt hbad
                      generalize l.length = ll at *
                      go_wp2
                      go_meet
                      exact hide (FIN.out (.inl HBD.out))
                    | false =>
                      rw [hbad] at c1
                      have HBD := hide hbad
                      obtain ⟨v1, v2, v3, v4, ep, R1, R2, R3, R4⟩ := id hS.p
                      obtain ⟨xs1, hR1, _⟩ := R3
                      obtain ⟨va, vc, hv1⟩ := row_form hR1
                      subst hv1
                      have cp : wr.cell? ⟨pb, 2, none⟩ = some (.slice va l.length vc) := cell_of ep rfl
                      have EP := hide ep
                      have C2 := hide (dints_any hS.drew.rd hS.rl)
                      have HLT := hide hlt
                      clear hS ep R1 R2 R4 hR1 hln hbad FIN
                      have HLL := hide (show l.length ≤ 8000000 by have := HLT.out; have := N3.out; omega)
                      have NXT := hide (show ∀ x s7, Agl intsR s6 x s7 → LpA intsR n3 s5 (l ++ [x]) s7 from fun x s7 h => HL.out.next HBD.out HLT.out h)
                      have llb : (l.length : Int) ≤ 4194304 := by have := HLL.out; have := HLT.out; have := N3.out; omega
                      generalize hll : l.length = ll at *
                      have HLLE := hide hll
                      clear hll
                      go_wp2_with fail
                      go_region_law (first
                        | (go_simp; refine C2.out.mono ?_; rintro e w3 ⟨u, x, s7, rfl, Rx, L3, F3, hle3, hag3⟩; obtain ⟨xsu, hRu, hcu⟩ := Rx; obtain ⟨ua, uc, hu⟩ := row_form hRu; subst hu; obtain ⟨g5, cap5, w5, hrun, k0, k1, k2, SP⟩ := HS.out.drew.push3 G.out EP.out F3 L3 (Nat.le_trans hle3 HS.out.rl) (cs := [.slice ua x.length uc]) (x := x) rfl (by simp [Value.oneCell']) ⟨_, rfl, RowP.base0 ⟨xsu, hRu, hcu⟩⟩ (by rw [HLLE.out]; exact HLL.out) 24; rw [HLLE.out] at hrun SP; have HRUN := hide hrun; have HSP := hide SP; have HAG := hide hag3; have cp3 : w3.cell? ⟨pb, 2, none⟩ = some (.slice va ll vc) := (World.cell?_of_block (a := ⟨pb, 2, none⟩) (F3.block pb (lt_of_block EP.out) (by have h1 := G.out.a; have h2 := G.out.p; omega))).trans cp; have hp3 : pb < w3.heap.size := World.block_lt_of_cell? w3 _ cp3; clear hrun SP hag3 hle3 L3 F3 hRu hcu; generalize x.length = xl at *)
                        | (refine step_append_eq (by rfl) _ _ 24 24 (by rfl) (by rfl) (by rfl) HRUN.out ?_))
                      all_goals (
                        generalize hW6 : w5.setCell ⟨pb, 2, none⟩ (.slice (some ⟨g5, 0, none⟩) (ll + 1) cap5) = W6 at *
                        clear hW6 k0 k1 k2 cp cp3 hp3 c1
                        go_wp2
                        go_roundw
                        case rel =>
                          refine ⟨l ++ [x], s7, ?_, ?_, HSP.out, NXT.out _ _ HAG.out⟩
                          · rw [List.length_append, List.length_singleton, HLLE.out]; go_num
                          · rw [List.length_append, List.length_singleton, HLLE.out]; exact hlt
                        case measure => rw [intOf_int]; simp [intOf]; omega)
                  · have d1 : decide ((l.length : Int) < (n3 : Int)) = false := by simp; omega
                    have d2 : decide (l.length < n3) = false := by simpa using hlt
                    have HGe := hide (show n3 ≤ l.length by omega)
                    clear hS hln hlt
                    generalize l.length = ll at *
                    go_wp2
                    go_meet
                    exact hide (FIN.out (.inr HGe.out))
                --END K
              case rest =>
                obtain ⟨l3, s6, hS, hA⟩ := hcut.out
                have S6 := hide hS
                have A6 := hide hA
                have C1 := hide (dcount_any hS.rd hS.rl)
                clear hcut hS hA S5 A5 N3 n3b
                go_wp2_with fail
                refine C1.out.mono ?_
                rintro e wf ⟨n4, s7, rfl, L1, F1, hle1, hag1⟩
                have S7 := hide (S6.out.go G.out F1 L1 hle1)
                have A7 := hide (show CntA s6 n4 s7 from hag1)
                have N4 := hide (A7.out.le S7.out.rl)
                have n4b : (n4 : Int) ≤ 4194304 := by have := N4.out; omega
                clear C1 L1 F1 hle1 hag1 S6
                go_upto_block 8 with (fail)
                go_cut [] from 153 to 187 (fun wx => Hid (∃ l4 s8, DS B rb A pb N w l1 l2 l3 l4 s8 wx ∧ Agl (lstR strR) s6 l4 s8))
                case first =>
                  --BEGIN L
                  go_wp2_with fail
                  go_loopw [15] (fun a wr => D4R B rb A pb N w l1 l2 l3 n4 s7 a wr) (fun a _ => n4 - (intOf a).toNat)
                  case atStart => exact ⟨[], s7, rfl, Nat.zero_le _, S7.out, LpA.start _ _ _⟩
                  case round =>
                    obtain ⟨l, s8, rfl, hln, hS, hL⟩ := hrel
                    have HS := hide hS
                    have HL := hide hL
                    obtain ⟨_, vr, h2, _⟩ := id hS.rd
                    have c1 : wr.cell? ⟨A, 1, none⟩ = some (.bool s8.bad) := cell_of h2 rfl
                    have FIN := hide (show (s8.bad = true ∨ n4 ≤ l.length) → ∃ l4 s8, DS B rb A pb N w l1 l2 l3 l4 s8 wr ∧ Agl (lstR strR) s6 l4 s8 from fun hf => ⟨l, s8, HS.out, HL.out.fin strR_eats A7.out hf⟩)
                    clear h2 hL
                    by_cases hlt : l.length < n4
                    · have d1 : decide ((l.length : Int) < (n4 : Int)) = true := by simp; omega
                      have d2 : decide (l.length < n4) = true := by simpa using hlt
                      cases hbad : s8.bad with
                      | true =>
                        rw [hbad] at c1
                        have HBD := hide hbad
                        clear hS hln hlt hbad
                        generalize l.length = ll at *
                        go_wp2
                        go_meet
                        exact hide (FIN.out (.inl HBD.out))
                      | false =>
                        rw [hbad] at c1
                        have HBD := hide hbad
                        have CC := hide (dcount_any hS.rd hS.rl)
                        have HLT := hide hlt
                        clear hS hln hbad FIN
                        have HLL := hide (show l.length ≤ 8000000 by have := HLT.out; have := N4.out; omega)
                        have NXT := hide (show ∀ x s3', Agl strR s8 x s3' → LpA strR n4 s7 (l ++ [x]) s3' from fun x s3' h => HL.out.next HBD.out HLT.out h)
                        have llb : (l.length : Int) ≤ 4194304 := by have := HLL.out; have := HLT.out; have := N4.out; omega
                        generalize hll : l.length = ll at *
                        have HLLE := hide hll
                        clear hll
                        go_wp2_with fail
                        refine CC.out.mono ?_
                        rintro e w1 ⟨m, se, rfl, Le, Fe, hlee, hage⟩
                        have S1 := hide (HS.out.go G.out Fe Le hlee)
                        obtain ⟨hm, hAS⟩ := CntA.str (show CntA s8 m se from hage)
                        have HAS := hide hAS
                        have HM2 := hide hm
                        obtain ⟨v1, v2, v3, v4, ep, R1, R2, R3, R4⟩ := id S1.out.p
                        obtain ⟨xs4, hR4, _⟩ := R4
                        obtain ⟨va, vc, hv4⟩ := row_form hR4
                        rw [HLLE.out] at hv4
                        subst hv4
                        have cp : w1.cell? ⟨pb, 3, none⟩ = some (.slice va ll vc) := cell_of ep rfl
                        have hpw : pb < w1.heap.size := lt_of_block ep
                        obtain ⟨_, vr, hA0, hbv⟩ := id Le
                        obtain ⟨ba, bc, hvr, hbc1, hbc2, _⟩ := id hbv
                        subst hvr
                        have r0 : w1.cell? ⟨A, 0, none⟩ = some (.slice ba se.rest.length bc) := cell_of hA0 rfl
                        have hcv : (convert 28 9 (.slice ba m bc)).run Try.prog w1.drew = .ok (.string ⟨(se.rest.take m).toArray⟩) w1.drew := (hbv.keep (w' := w1.drew) fun _ _ => rfl).conv hm
                        have mb1 : (m : Int) ≤ (se.rest.length : Int) := by omega
                        have mb2 : (se.rest.length : Int) ≤ (bc : Int) := by omega
                        have mb4 : m ≤ bc := by omega
                        have mb3 : (se.rest.length : Int) ≤ 4194304 := by have := S1.out.rl; simp only [MB] at this; omega
                        obtain ⟨g5, cap5, w5, hrun, j0, j1, j2, S5⟩ := S1.out.drew.push4 G.out ep (Fr.refl A w1.drew) S1.out.drew.rd S1.out.rl (cs := [.string ⟨(se.rest.take m).toArray⟩]) (x := se.rest.take m) rfl (by simp [Value.oneCell']) rfl (by rw [HLLE.out]; exact HLL.out) 25
                        rw [HLLE.out] at hrun S5
                        have HRUN := hide hrun
                        have HS5 := hide S5
                        clear Le Fe hlee hage hAS hm ep R1 R2 R3 hR4 hA0 hbv hbc1 hbc2 hrun S5 CC HS HL
                        generalize htk : se.rest.take m = tk at *
                        generalize hsl : se.rest.length = sl at *
                        have HTK := hide htk
                        have HSL := hide hsl
                        clear htk hsl
                        go_wp2_with fail
                        go_region_law (refine step_append_eq (by rfl) _ _ 25 25 (by rfl) (by rfl) (by rfl) HRUN.out ?_)
                        all_goals (
                          generalize hW6 : w5.setCell ⟨pb, 3, none⟩ (.slice (some ⟨g5, 0, none⟩) (ll + 1) cap5) = W6 at *
                          clear hW6 j0 j1 j2 cp hpw r0 hcv mb2 mb4 c1
                          obtain ⟨_, vr6, hA6, hb6⟩ := id HS5.out.rd
                          obtain ⟨b6a, b6c, hv6, h61, h62, _⟩ := id hb6
                          subst hv6
                          have r6 : W6.cell? ⟨A, 0, none⟩ = some (.slice b6a se.rest.length b6c) := cell_of hA6 rfl
                          have q6 : W6.frozen? ⟨A, 0, none⟩ = false := by simp [World.frozen?, hA6]
                          have z6 := lt_of_block hA6
                          have mb2 : (se.rest.length : Int) ≤ (b6c : Int) := by omega
                          rw [HSL.out] at r6 mb2
                          have T1 := hide (show b6c = m → DS B rb A pb N w l1 l2 l3 (l ++ [tk]) ⟨se.rest.drop m, se.bad⟩ (W6.setCell ⟨A, 0, none⟩ (.slice b6a (sl - m) 0)) from fun hc => by
                            have := HS5.out.rd.set0 (hb6.tail1 (by rw [HSL.out]; exact HM2.out) hc)
                            rw [HSL.out] at this
                            exact HS5.out.go G.out this.2 this.1 (by simp))
                          have T2 := hide (show DS B rb A pb N w l1 l2 l3 (l ++ [tk]) ⟨se.rest.drop m, se.bad⟩ (W6.setCell ⟨A, 0, none⟩ (.slice (Option.map (fun x => x.add m) b6a) (sl - m) (b6c - m))) from by
                            have := HS5.out.rd.set0 (hb6.tail2 (m := m) (by rw [HSL.out]; exact HM2.out))
                            rw [HSL.out] at this
                            exact HS5.out.go G.out this.2 this.1 (by simp))
                          clear hA6 hb6 h61 h62
                          go_wp2)
                        all_goals (
                          go_roundw
                          case rel =>
                            refine ⟨l ++ [tk], ⟨se.rest.drop m, se.bad⟩, ?_, ?_, ?_, NXT.out _ _ HAS.out⟩
                            · rw [List.length_append, List.length_singleton, HLLE.out]; go_num
                            · rw [List.length_append, List.length_singleton, HLLE.out]; exact hlt
                            · first
                              | exact T1.out (by omega)
                              | (by_cases hcm : b6c = m
                                 · rw [if_pos hcm, show b6c - m = 0 by omega]; exact T1.out hcm
                                 · rw [if_neg hcm]; exact T2.out)
                          case measure => rw [intOf_int]; simp [intOf]; omega)
                    · have d1 : decide ((l.length : Int) < (n4 : Int)) = false := by simp; omega
                      have d2 : decide (l.length < n4) = false := by simpa using hlt
                      have HGe := hide (show n4 ≤ l.length by omega)
                      clear hS hln hlt
                      generalize l.length = ll at *
                      go_wp2
                      go_meet
                      exact hide (FIN.out (.inr HGe.out))
                  --END L
                case rest =>
                  --BEGIN M
                  obtain ⟨l4, s8, hS, hA⟩ := hcut.out
                  have HDE := hide (dec_agree (b := b) (by rw [hbl]; exact HNM.out) (pg_agree (s := ⟨b, false⟩) HFB.out (by rw [HFX.out]; exact A2.out) A4.out A6.out hA))
                  have hfr : Below rb w wc := by have := hS.fr; rwa [G.out.r] at this
                  have B4 := hide hfr
                  obtain ⟨v1, v2, v3, v4, ep, R1, R2, R3, R4⟩ := id hS.p
                  have PG4 : PgR wc v1 v2 v3 v4 ⟨l1, l2, l3, l4⟩ := ⟨R1.base0, R2.base0, R3.base0, R4.base0⟩
                  have HPG := hide PG4
                  have C3 := hide (gsound_any PG4.at (Nat.le_refl _))
                  obtain ⟨xs1, hR1, -⟩ := R1
                  obtain ⟨a1, k1, hv1⟩ := row_form hR1
                  obtain ⟨xs2, hR2, -⟩ := R2
                  obtain ⟨a2, k2, hv2⟩ := row_form hR2
                  obtain ⟨xs3, hR3, -⟩ := R3
                  obtain ⟨a3, k3, hv3⟩ := row_form hR3
                  obtain ⟨xs4, hR4, -⟩ := R4
                  obtain ⟨a4, k4, hv4⟩ := row_form hR4
                  subst hv1 hv2 hv3 hv4
                  have q0 : wc.cell? ⟨pb, 0, none⟩ = some (.slice a1 l1.length k1) := cell_of ep rfl
                  have q1 : wc.cell? ⟨pb, 1, none⟩ = some (.slice a2 l2.length k2) := cell_of ep rfl
                  have q2 : wc.cell? ⟨pb, 2, none⟩ = some (.slice a3 l3.length k3) := cell_of ep rfl
                  have q3 : wc.cell? ⟨pb, 3, none⟩ = some (.slice a4 l4.length k4) := cell_of ep rfl
                  obtain ⟨-, vr, hrA, hbytes⟩ := id hS.rd
                  obtain ⟨ra2, rc2, hvr, -⟩ := hbytes
                  subst hvr
                  have k0 : wc.cell? ⟨A, 0, none⟩ = some (.slice ra2 s8.rest.length rc2) := cell_of hrA rfl
                  have k1' : wc.cell? ⟨A, 1, none⟩ = some (.bool s8.bad) := cell_of hrA rfl
                  have hr4 := hS.rb
                  have HR4 := hide hr4
                  have HEP := hide ep
                  have s0 : wc.cell? ⟨rb, 0, none⟩ = some (.slice none 0 0) := cell_of hr4 rfl
                  have s1 : wc.cell? ⟨rb, 1, none⟩ = some (.slice none 0 0) := cell_of hr4 rfl
                  have s2 : wc.cell? ⟨rb, 2, none⟩ = some (.slice none 0 0) := cell_of hr4 rfl
                  have s3 : wc.cell? ⟨rb, 3, none⟩ = some (.slice none 0 0) := cell_of hr4 rfl
                  have f0 : wc.frozen? ⟨rb, 0, none⟩ = false := by simp [World.frozen?, hr4]
                  have f1 : wc.frozen? ⟨rb, 1, none⟩ = false := by simp [World.frozen?, hr4]
                  have f2 : wc.frozen? ⟨rb, 2, none⟩ = false := by simp [World.frozen?, hr4]
                  have f3 : wc.frozen? ⟨rb, 3, none⟩ = false := by simp [World.frozen?, hr4]
                  have hlt4 := lt_of_block hr4
                  clear hcut hS hA hfr ep PG4 hR1 hR2 hR3 hR4 hrA hr4 S7 A7 N4 n4b A2 A4 A6 HR E1 B1 HM HNM HFX HFB
                  generalize hrl : s8.rest.length = rl at *
                  generalize hbd : s8.bad = bd at *
                  generalize hsn : sndP ⟨l1, l2, l3, l4⟩ = sn at *
                  clear hrl hbd hsn
                  cases bd with
                  | true =>
                    obtain ⟨WF, hWF⟩ : ∃ WF, set4 wc rb (.slice none 0 0) (.slice none 0 0) (.slice none 0 0) (.slice none 0 0) = WF := ⟨_, rfl⟩
                    obtain ⟨y0, y1, y2, y3⟩ : WF.cell? ⟨rb, 0, none⟩ = some (.slice none 0 0) ∧ WF.cell? ⟨rb, 1, none⟩ = some (.slice none 0 0) ∧ WF.cell? ⟨rb, 2, none⟩ = some (.slice none 0 0) ∧ WF.cell? ⟨rb, 3, none⟩ = some (.slice none 0 0) := by rw [← hWF]; exact set4_cells HR4.out _ _ _ _
                    have HBF := hide (show Below rb w WF from hWF ▸ set4_below B4.out (Nat.le_refl _) _ _ _ _)
                    unfold set4 at hWF
                    go_upto_region 39 with (fail)
                    repeat go_step
                    refine bodyPost_ret (by simp [results, Try.results14, go_sem, y0, y1, y2, y3]; try rfl) rfl ?_
                    rw [HDE.out]
                    exact ⟨_, _, _, _, rfl, pg0_at _ _, HRB.out ▸ HBF.out⟩
                  | false =>
                    by_cases hrl : 0 < rl
                    · have e1 : decide (0 < rl) = true := by simpa using hrl
                      have e2 : decide ((0 : Int) < (rl : Int)) = true := by simp; omega
                      have HRL := hide hrl
                      clear hrl
                      obtain ⟨WF, hWF⟩ : ∃ WF, set4 wc rb (.slice none 0 0) (.slice none 0 0) (.slice none 0 0) (.slice none 0 0) = WF := ⟨_, rfl⟩
                      obtain ⟨y0, y1, y2, y3⟩ : WF.cell? ⟨rb, 0, none⟩ = some (.slice none 0 0) ∧ WF.cell? ⟨rb, 1, none⟩ = some (.slice none 0 0) ∧ WF.cell? ⟨rb, 2, none⟩ = some (.slice none 0 0) ∧ WF.cell? ⟨rb, 3, none⟩ = some (.slice none 0 0) := by rw [← hWF]; exact set4_cells HR4.out _ _ _ _
                      have HBF := hide (show Below rb w WF from hWF ▸ set4_below B4.out (Nat.le_refl _) _ _ _ _)
                      unfold set4 at hWF
                      go_upto_region 39 with (fail)
                      repeat go_step
                      refine bodyPost_ret (by simp [results, Try.results14, go_sem, y0, y1, y2, y3]; try rfl) rfl ?_
                      rw [HDE.out, if_pos (.inr HRL.out)]
                      exact ⟨_, _, _, _, rfl, pg0_at _ _, HRB.out ▸ HBF.out⟩
                    · have e1 : decide (0 < rl) = false := by simpa using hrl
                      have e2 : decide ((0 : Int) < (rl : Int)) = false := by simp; omega
                      have HRL := hide hrl
                      clear hrl
                      go_wp2_with fail
                      refine C3.out.mono ?_
                      rintro e w6 ⟨rfl, hb6⟩
                      have hr6 : w6.heap[rb]? = some (.cells #[.slice none 0 0, .slice none 0 0, .slice none 0 0, .slice none 0 0] 27 (0, 0)) := (hb6.block _ hlt4).trans HR4.out
                      have hp6 := (hb6.block _ (lt_of_block HEP.out)).trans HEP.out
                      have B6 := hide (show Below rb w w6 from B4.out.trans (hb6.mono (Nat.le_of_lt hlt4)))
                      have HSM := hide (show ∀ (u0 u1 u2 u3 : Value), SmX [27] wc (set4 w6 rb u0 u1 u2 u3) from fun u0 u1 u2 u3 => (SmX.of_below hb6).trans (set4_sm hr6 u0 u1 u2 u3))
                      have t0 : w6.cell? ⟨rb, 0, none⟩ = some (.slice none 0 0) := cell_of hr6 rfl
                      have t1 : w6.cell? ⟨rb, 1, none⟩ = some (.slice none 0 0) := cell_of hr6 rfl
                      have t2 : w6.cell? ⟨rb, 2, none⟩ = some (.slice none 0 0) := cell_of hr6 rfl
                      have t3 : w6.cell? ⟨rb, 3, none⟩ = some (.slice none 0 0) := cell_of hr6 rfl
                      have g0 : w6.frozen? ⟨rb, 0, none⟩ = false := by simp [World.frozen?, hr6]
                      have g1 : w6.frozen? ⟨rb, 1, none⟩ = false := by simp [World.frozen?, hr6]
                      have g2 : w6.frozen? ⟨rb, 2, none⟩ = false := by simp [World.frozen?, hr6]
                      have g3 : w6.frozen? ⟨rb, 3, none⟩ = false := by simp [World.frozen?, hr6]
                      have hlt6 := lt_of_block hr6
                      have p0 : w6.cell? ⟨pb, 0, none⟩ = some (.slice a1 l1.length k1) := cell_of hp6 rfl
                      have p1 : w6.cell? ⟨pb, 1, none⟩ = some (.slice a2 l2.length k2) := cell_of hp6 rfl
                      have p2 : w6.cell? ⟨pb, 2, none⟩ = some (.slice a3 l3.length k3) := cell_of hp6 rfl
                      have p3 : w6.cell? ⟨pb, 3, none⟩ = some (.slice a4 l4.length k4) := cell_of hp6 rfl
                      have HR6 := hide hr6
                      clear C3 hb6 hr6 hp6 q0 q1 q2 q3 s0 s1 s2 s3 f0 f1 f2 f3 hlt4 k0 k1'
                      cases sn with
                      | false =>
                        obtain ⟨WF, hWF⟩ : ∃ WF, set4 w6 rb (.slice none 0 0) (.slice none 0 0) (.slice none 0 0) (.slice none 0 0) = WF := ⟨_, rfl⟩
                        obtain ⟨y0, y1, y2, y3⟩ : WF.cell? ⟨rb, 0, none⟩ = some (.slice none 0 0) ∧ WF.cell? ⟨rb, 1, none⟩ = some (.slice none 0 0) ∧ WF.cell? ⟨rb, 2, none⟩ = some (.slice none 0 0) ∧ WF.cell? ⟨rb, 3, none⟩ = some (.slice none 0 0) := by rw [← hWF]; exact set4_cells HR6.out _ _ _ _
                        have HBF := hide (show Below rb w WF from hWF ▸ set4_below B6.out (Nat.le_refl _) _ _ _ _)
                        unfold set4 at hWF
                        go_upto_region 41 with (fail)
                        repeat go_step
                        refine bodyPost_ret (by simp [results, Try.results14, go_sem, y0, y1, y2, y3]; try rfl) rfl ?_
                        rw [HDE.out, if_neg (by rintro (h | h); · cases h
                                                · exact HRL.out h), if_neg (by decide)]
                        exact ⟨_, _, _, _, rfl, pg0_at _ _, HRB.out ▸ HBF.out⟩
                      | true =>
                        obtain ⟨WF, hWF⟩ : ∃ WF, set4 w6 rb (.slice a1 l1.length k1) (.slice a2 l2.length k2) (.slice a3 l3.length k3) (.slice a4 l4.length k4) = WF := ⟨_, rfl⟩
                        obtain ⟨y0, y1, y2, y3⟩ : WF.cell? ⟨rb, 0, none⟩ = some (.slice a1 l1.length k1) ∧ WF.cell? ⟨rb, 1, none⟩ = some (.slice a2 l2.length k2) ∧ WF.cell? ⟨rb, 2, none⟩ = some (.slice a3 l3.length k3) ∧ WF.cell? ⟨rb, 3, none⟩ = some (.slice a4 l4.length k4) := by rw [← hWF]; exact set4_cells HR6.out _ _ _ _
                        have HBF := hide (show Below rb w WF from hWF ▸ set4_below B6.out (Nat.le_refl _) _ _ _ _)
                        have HPF := hide (show PgR WF (.slice a1 l1.length k1) (.slice a2 l2.length k2) (.slice a3 l3.length k3) (.slice a4 l4.length k4) ⟨l1, l2, l3, l4⟩ from hWF ▸ HPG.out.keepX (HSM.out _ _ _ _))
                        unfold set4 at hWF
                        go_upto_region 42 with (fail)
                        repeat go_step
                        refine bodyPost_ret (by simp [results, Try.results14, go_sem, y0, y1, y2, y3]; try rfl) rfl ?_
                        rw [HDE.out, if_neg (by rintro (h | h); · cases h
                                                · exact HRL.out h), if_pos (by trivial)]
                        exact ⟨_, _, _, _, rfl, HPF.out.at, HRB.out ▸ HBF.out⟩
                  --END M
theorem reads_law {B : Nat} {w : World} {vb : Value} {b : By} (RB : BytesAt B w vb b) (hB : B ≤ w.heap.size) :
    Calls Try.prog 4 #[vb] w fun e w' => e = .returned (.bool true) ∧ Below w.heap.size w w' := reads_of gdecode RB hB
end Go.Proofs.Ytnkdlbiicfnmcaa
