/- reach: the walk again, with the place of what it returns. -/
import Derived.Test.YtlbildodjnjniaaEsL
namespace Go.Proofs.Ytlbildodjnjniaa
open Go.RowKit

/-- A list of numbers in a block that is new. -/
def Nw (w w' : World) (v : Value) (n : Nat) : Prop := 0 < n → ∃ b c arr, v = .slice (some ⟨b, 1, none⟩) n c ∧ w'.heap[b]? = some (.cells arr 3 (0, 0)) ∧ w.heap.size ≤ b
set_option maxHeartbeats 4000000 in
set_option maxRecDepth 20000 in
theorem reach_any2 {w : World} {vg : Value} {n : Nat} {fs : List Fl} {root B : Int} (G : GrAt w vg n fs) (S : Snd n fs) (hn : n ≤ 512) (hf : fs.length ≤ 20000) (hr : -1 ≤ root) (hr2 : root < n) (hB : 0 ≤ B) (hB2 : B ≤ 51200) :
    Calls Try.prog 20 #[vg, .int .i64 root, .int .i64 B] w fun e w' => ∃ (l : Int → Int) (v : Value), e = .returned v ∧ Hid (IntsAt w' v ((List.range n).map fun (i : Nat) => l i)) ∧ Hid (Lst fs B root l) ∧ Below w.heap.size w w' ∧ Hid (Nw w w' v n) := by
  obtain ⟨bg, cg, rfl, hbg, hrow⟩ := G
  have HROW := hide hrow
  have HS := hide S
  have HR := hide (And.intro hr hr2)
  have HB := hide hB
  clear hrow S
  have b1 : (n : Int) ≤ 512 := by omega
  have hmk : ∀ W : World, (Instr.makeSlice 34 (.int .i64 ((n : Int) + 1)) (.int .i64 ((n : Int) + 1))).run Try.prog W = .ok (.slice (some ⟨W.heap.size, 0, none⟩) (n + 1) (n + 1)) (W.alloc (.cells (reps (n + 1) (.bool false)) 4)) := fun W => run_bools W (n + 1) (by omega)
  have hrep : ∀ (W : World) (b : Nat), W.cell? ⟨b, 0, none⟩ = some (.int .i64 (-2)) → Calls Try.prog 27 #[.slice (some ⟨b, 0, none⟩) 1 1, .int .i64 ((n : Int) + 1)] W fun e w' => e = .returned (.slice (some ⟨W.heap.size, 0, none⟩) (n + 1) (n + 1)) ∧ Rp W w' (n + 1) (n + 1) (-2) := fun W b h => repeat_any (n := n + 1) h (by omega) (by omega)
  go_enter Try.func20, Try.ntmps20
  go_upto_region 1 with fail
  go_cut [7, 8] from 14 to 20 (fun v7 v8 wc => ∃ bl bw : Nat, v7 = .slice (some ⟨bl, 0, none⟩) (n + 1) (n + 1) ∧ v8 = .slice (some ⟨bw, 0, none⟩) (n + 1) (n + 1) ∧ Hid (Rm w wc n bl bw (fun _ => -2) (fun _ => false) (.slice none 0 0) []))
  case first =>
    have hc1 : (w.alloc oA).drew.cell? ⟨w.heap.size, 0, none⟩ = some (.int .i64 (-2)) := cell_of (w := w.alloc oA) (heap_new _ _ rfl) rfl
    have hc2 : ((w.alloc oA).alloc (oM n)).drew.cell? ⟨w.heap.size, 0, none⟩ = some (.int .i64 (-2)) := cell_of (w := (w.alloc oA).alloc (oM n)) ((Below.heap_alloc (w.alloc oA) (oM n) _ (by simp)).trans (heap_new w oA rfl)) rfl
    have hc3 : ((w.alloc (oM n)).alloc oA).drew.cell? ⟨w.heap.size + 1, 0, none⟩ = some (.int .i64 (-2)) := cell_of (w := (w.alloc (oM n)).alloc oA) (heap_new _ _ (by simp)) rfl
    have R1 := hide (hrep _ _ hc1)
    have R2 := hide (hrep _ _ hc2)
    have R3 := hide (hrep _ _ hc3)
    clear hc1 hc2 hc3 hrep
    go_region_law (go_simp; go_at_call 27; first
      | (with_reducible refine R1.out.mono ?_; rintro e w4 ⟨rfl, RP⟩; have RM := hide (rm1 RP); have hz4 := RP.bel.size; clear RP)
      | (with_reducible refine R2.out.mono ?_; rintro e w4 ⟨rfl, RP⟩; have RM := hide (rm2 RP); have hz4 := RP.bel.size; clear RP)
      | (with_reducible refine R3.out.mono ?_; rintro e w4 ⟨rfl, RP⟩; have RM := hide (rm3 RP); have hz4 := RP.bel.size; clear RP))
    all_goals
      go_wp2_with fail
      go_meet
      exact ⟨_, _, rfl, rfl, RM⟩
  case rest =>
    obtain ⟨bl, bw, rfl, rfl, M⟩ := hcut
    obtain ⟨r0, hr0⟩ : ∃ r0, pl root = r0 := ⟨_, rfl⟩
    have er : root + 1 = (r0 : Int) := by have := HR.out; unfold pl at hr0; omega
    have br0 : (r0 : Int) < (n : Int) + 1 := by have := HR.out; omega
    have hrn : r0 ≤ n := by omega
    have p1 : ∀ W : World, Calls Try.prog 26 #[.int .i64 root] W fun e w' => e = .returned (.int .i64 (r0 : Int)) ∧ W = w' := fun W => by
      have := place_any (w := W) root (by have := HR.out; omega) (by have := HR.out; omega)
      rw [er] at this; exact this
    have lc := M.out.lcell hrn
    have lf := M.out.lfz r0
    have M1 := (M.out.setL hrn 0).one r0
    rw [show (wc.setCell ⟨bl, r0, none⟩ (.int .i64 0)).heap.size = wc.heap.size by simp] at M1
    have M1 := hide M1
    have R1 := RI.new (fs := fs) HB.out HR.out.1 HR.out.2
    rw [hr0] at R1
    have HR1 := hide R1
    obtain ⟨K0, hK0⟩ : ∃ K0, 2 * Phi B (upf (fun _ => -2) r0 0) n + 1 = K0 := ⟨_, rfl⟩
    have HK0 := hide (show K0 ≤ 100000000 by
      have h1 := phi_le (L := upf (fun _ => -2) r0 0) HB.out (fun i => by
        by_cases e : i = r0
        · subst e; rw [upf_same]; omega
        · rw [upf_other _ _ e]; omega) n
      have h2 : (n + 1) * (B.toNat + 2) ≤ 513 * 51202 := Nat.mul_le_mul (by omega) (by omega)
      omega)
    have HKK := hide (show 2 * Phi B (upf (fun _ => -2) r0 0) n + [r0].length ≤ K0 by rw [← hK0]; simp)
    clear R1 hK0 hrep hmk
    go_wp2_with (go_at_call 26; refine (p1 _).mono ?_; rintro e w2 ⟨rfl, rfl⟩)
    go_loopg [9] K0 (fun K vq wr => ∃ L W q t0, Hid (Rm w wr n bl bw L W vq q) ∧ Hid (RI n fs B root L W q t0 []) ∧ Hid (2 * Phi B L n + q.length ≤ K ∧ K ≤ K0))
    case atStart =>
      exact ⟨_, _, _, _, M1, HR1, HKK.out, Nat.le_refl _⟩
    case round =>
      obtain ⟨L, W, q, t0, HM, HI, HK⟩ := hrel
      obtain ⟨G1, rfl⟩ : ∃ G1, G1 = gk := ⟨gk, rfl⟩
      cases q with
      | nil =>
        obtain ⟨ao, cp, hv⟩ := HM.out.qs.len
        rw [qi_len] at hv
        simp only [List.length_nil] at hv
        subst hv
        have p0 : ∀ W : World, Calls Try.prog 26 #[.int .i64 0] W fun e w' => e = .returned (.int .i64 1) ∧ W = w' := fun W => place_any (w := W) 0 (by omega) (by omega)
        have hz := HM.out.lt.1
        by_cases h0 : n = 0
        · subst h0
          go_wp2_with (go_at_call 26; refine (p0 _).mono ?_; rintro e w2 ⟨rfl, rfl⟩)
          go_ret
          exact ⟨lof 0 L, _, rfl, ⟨_, _, rfl, fun j x hx => by simp at hx⟩, hide (HI.out.lst HS.out HR.out.1 HR.out.2), HM.out.bel, hide (fun h => absurd h (Nat.lt_irrefl _))⟩
        · have h1 : ¬ n + 1 = 1 := by omega
          go_wp2_with (go_at_call 26; refine (p0 _).mono ?_; rintro e w2 ⟨rfl, rfl⟩)
          go_ret
          refine ⟨lof n L, _, rfl, hide ?_, hide (HI.out.lst HS.out HR.out.1 HR.out.2), HM.out.bel, hide (fun _ => by obtain ⟨arr, h1, _⟩ := HM.out.ll; exact ⟨bl, _, arr, rfl, h1, HM.out.lo.1⟩)⟩
          refine ⟨some ⟨bl, 1, none⟩, n, by simp, fun j x hx => ?_⟩
          rw [List.getElem?_map] at hx
          by_cases hj : j < n
          · rw [List.getElem?_range hj] at hx
            simp at hx
            subst hx
            refine ⟨bl, 1, rfl, hz, ?_⟩
            have := HM.out.lcell (i := j + 1) (by omega)
            rw [Nat.add_comm 1 j, this]
            have e := lof_at n L (i := j + 1) (by omega)
            rw [show ((j + 1 : Nat) : Int) - 1 = (j : Int) by omega] at e
            rw [e]
          · rw [List.getElem?_eq_none (by simp; omega)] at hx; cases hx
      | cons t q =>
        obtain ⟨g, off, cap, hv, hc, hcap, MP⟩ := HM.out.pop
        subst hv
        obtain ⟨RP, htn, hLt⟩ := HI.out.pop
        obtain ⟨vr, hvr, ar, cr, hvr2, P2⟩ := HROW.out t htn
        subst hvr2
        have hvr' : wr.cell? ⟨bg, t, none⟩ = some (.slice ar ((row fs t).map fun p => ((p.1 : Int), p.2)).length cr) := by rw [HM.out.bel.cell (p := ⟨bg, t, none⟩) hbg]; exact hvr
        have hrl : ((row fs t).map fun p => ((p.1 : Int), p.2)).length ≤ 20000 := by
          have := row_length fs t
          rw [List.length_map]; omega
        have M2 := hide (MP.setW htn false)
        have RP' := hide RP
        have HLt := hide hLt
        have wf := MP.wfz t
        have wc0 := MP.wcell htn
        have bt : (t : Int) < (n : Int) + 1 := by omega
        have HP2 := hide P2
        have hKq := HK.out
        rw [List.length_cons] at hKq
        have bq : (q.length : Int) ≤ 100000000 := by have := HK0.out; omega
        have bq2 : (q.length : Int) + 1 ≤ (cap : Int) := by omega
        have HKq := hide hKq
        have bm : (((row fs t).map fun p => ((p.1 : Int), p.2)).length : Int) ≤ 20000 := by omega
        generalize hm : ((row fs t).map fun p => ((p.1 : Int), p.2)).length = m at *
        have HMm := hide hm
        have HVR := hide hvr
        clear MP RP hLt P2 hKq HM HI hvr hm HK
        go_upto_region 7 with fail
        generalize (if cap = 1 then some (⟨g, off, none⟩ : Addr) else some ⟨g, off + 1, none⟩) = aq at M2 ⊢
        generalize cap - 1 = cq at M2 ⊢
        have hv2 : (wr.setCell ⟨bw, t, none⟩ (.bool false)).cell? ⟨bg, t, none⟩ = some (.slice ar m cr) := by
          rw [M2.out.bel.cell (p := ⟨bg, t, none⟩) hbg]
          exact HVR.out
        generalize wr.setCell ⟨bw, t, none⟩ (.bool false) = W2 at M2 hv2 ⊢
        clear hc hvr' wf wc0 hcap bq2
        go_wp2
        go_loopg [9, 44] m (fun K2 vq vi wr2 => ∃ (k : Nat) (L : Nat → Int) (W : Nat → Bool) (q : List Nat), vi = .int .i64 k ∧ k ≤ m ∧ m - k ≤ K2 ∧ Hid (Rm w wr2 n bl bw L W vq q) ∧ Hid (RI n fs B root L W q t ((row fs t).drop k)) ∧ Hid (L t ≠ -2) ∧ Hid (2 * Phi B L n + q.length + 1 ≤ G1 ∧ G1 ≤ K0))
        case atStart => exact ⟨0, L, _, q, rfl, Nat.zero_le _, Nat.le_refl _, M2, RP', HLt, HKq.out.1, HKq.out.2⟩
        case round =>
          clear M2 RP' HLt HKq hv2 bq
          obtain ⟨k, L', W', q', rfl, hk, hgk, HM2, HI2, HL2, HK2⟩ := hrel
          obtain ⟨G2, rfl⟩ : ∃ G2, G2 = gk := ⟨gk, rfl⟩
          obtain ⟨aq2, cq2, hvq⟩ := HM2.out.qs.len
          rw [qi_len] at hvq
          subst hvq
          by_cases hlt : k < m
          · obtain ⟨p, hp⟩ : ∃ p, (row fs t)[k]? = some p := ⟨(row fs t)[k]'(by have := HMm.out; rw [List.length_map] at this; omega), by simp⟩
            have hpm := List.mem_of_getElem? hp
            obtain ⟨a1, a2, a3, a4, a5, _⟩ := row_at HS.out hpm
            obtain ⟨gr, orr, har, hgl, e0, e1⟩ := HP2.out k ((p.1 : Int), p.2) (by rw [List.getElem?_map, hp]; rfl)
            subst har
            rw [← HM2.out.bel.cell (p := ⟨gr, orr + k * 2, none⟩) hgl] at e0
            rw [← HM2.out.bel.cell (p := ⟨gr, orr + k * 2 + 1, none⟩) hgl] at e1
            have hdrop : (row fs t).drop k = p :: (row fs t).drop (k + 1) := by
              have hkl := get_lt hp
              rw [List.drop_eq_getElem_cons hkl]
              rw [List.getElem?_eq_getElem hkl] at hp
              cases hp; rfl
            have HI3 := HI2.out
            rw [hdrop] at HI3
            have HI3 := hide HI3
            obtain ⟨W3, hW3⟩ : ∃ W3, wr.alloc (.cells #[.int .i64 (p.1 : Int), .int .i64 p.2] 59) = W3 := ⟨_, rfl⟩
            have hb3 : Below wr.heap.size wr W3 := by rw [← hW3]; exact (Below.refl _ _).alloc (Nat.le_refl _) _
            have bx3 : W3.heap[wr.heap.size]? = some (.cells #[.int .i64 (p.1 : Int), .int .i64 p.2] 59 (0, 0)) := by rw [← hW3]; exact heap_new _ _ rfl
            have z3 : W3.heap.size = wr.heap.size + 1 := by rw [← hW3]; simp
            have M3 := hide (HM2.out.under hb3)
            obtain ⟨a, ha⟩ : ∃ a, p.1 = a := ⟨_, rfl⟩
            obtain ⟨r, hr⟩ : ∃ r, p.2 = r := ⟨_, rfl⟩
            have HA := hide (And.intro ha hr)
            rw [ha] at a2 a3 e0 bx3 hW3
            rw [hr] at a4 a5 e1 bx3 hW3
            have f0 := cell_of bx3 (o := 0) rfl
            have f1 := cell_of bx3 (o := 1) rfl
            have lt3 := M3.out.lcell htn
            have la3 := M3.out.lcell a3
            have wa3 := M3.out.wcell a3
            have lf3 := M3.out.lfz a
            have rgt := HI3.out.rng t htn
            have rga := HI3.out.rng a a3
            obtain ⟨lt, hlt2⟩ : ∃ x, L' t = x := ⟨_, rfl⟩
            obtain ⟨la, hla2⟩ : ∃ x, L' a = x := ⟨_, rfl⟩
            rw [hlt2] at lt3 rgt
            rw [hla2] at la3 rga
            have HLE := hide (And.intro hlt2 hla2)
            have bk : (k : Int) < (m : Int) := by omega
            have ba : (a : Int) < (n : Int) + 1 := by omega
            clear hp ha hr hlt2 hla2 hdrop hgl HI2 HM2 hb3
            go_upto_region 10 with fail
            go_quiet (fail)
            have hmm : (if lt < 0 then 0 else lt) = max lt 0 := by split <;> omega
            rw [hmm]
            obtain ⟨mx, hmx⟩ : ∃ x, max lt 0 = x := ⟨_, rfl⟩
            rw [hmx]
            have hdd : (if B < mx + r then B else mx + r) = min (mx + r) B := by split <;> omega
            rw [hdd]
            have M4 := hide (M3.out.under (below_drewN (Below.refl _ W3) nq))
            obtain ⟨d, hd⟩ : ∃ d, min (mx + r) B = d := ⟨_, rfl⟩
            rw [hd]
            have HDR := hide (show -1 ≤ d ∧ d ≤ B by have := HB.out; omega)
            have HD := hide (show d = min (max (L' t) 0 + p.2) B by rw [HLE.out.1, HA.out.2, hmx]; exact hd.symm)
            have HPM := hide hpm
            have HBX := hide bx3
            have HNE := hide (M3.out.ne_of bx3 (by decide))
            have bd : -2 < d ∧ d ≤ 51200 := by have := HDR.out; omega
            obtain ⟨bd1, bd2⟩ := bd
            clear hdd hpm hd hmm hmx
            by_cases h1 : la = -2
            · have g1 : (la != -2) = false := by simpa using h1
              go_upto_region 12 with fail
              have M5 := M4.out.setL a3 d
              go_upto_region 13 with fail
              obtain ⟨W5, hW5⟩ : ∃ W5, (W3.drewN nq).setCell ⟨bl, a, none⟩ (.int .i64 d) = W5 := ⟨_, rfl⟩
              have bx5 : W5.heap[wr.heap.size]? = some (.cells #[.int .i64 (a : Int), .int .i64 r] 59 (0, 0)) := by rw [← hW5, Below.heap_setCell _ _ _ _ (show wr.heap.size ≠ bl from fun e => HNE.out e.symm)]; exact HBX.out
              have z5 : W5.heap.size = wr.heap.size + 1 := by rw [← hW5]; simpa using z3
              rw [hW5] at M5 ⊢
              have g0 := cell_of bx5 (o := 0) rfl
              have g1 := cell_of bx5 (o := 1) rfl
              have wa5 := M5.wcell a3
              have wf5 := M5.wfz a
              have HM5 := hide M5
              clear hW5 f0 f1 lt3 la3 wa3 lf3 M5
              cases hwa : W' a with
              | true =>
                rw [hwa] at wa5
                have hnx := HI3.out.relax HS.out HB.out HPM.out HL2.out HD.out (by rw [HA.out.1, HLE.out.2]; exact .inl h1) (W' := W') (q' := q') (.inl ⟨by rw [HA.out.1]; exact hwa, rfl, rfl⟩)
                have hph := phi_less (B := B) (L := L') (d := d) a3 HDR.out.1 HDR.out.2 (by rw [HLE.out.2]; exact .inl h1)
                rw [HA.out.1] at hnx
                have HNX := hide hnx
                have HPH := hide hph
                clear hnx hph hwa
                go_wp2
                go_roundg (G2 - 1)
                case measure => have := hgk; omega
                case rel => exact ⟨k + 1, _, _, _, by go_num, by omega, by omega, HM5, HNX.out.1, HNX.out.2, by have := HK2.out.1; have := HPH.out; omega, HK2.out.2⟩
              | false =>
                rw [hwa] at wa5
                have hnx := HI3.out.relax HS.out HB.out HPM.out HL2.out HD.out (by rw [HA.out.1, HLE.out.2]; exact .inl h1) (W' := upf W' a true) (q' := q' ++ [a]) (.inr ⟨by rw [HA.out.1], by rw [HA.out.1]⟩)
                have hph := phi_less (B := B) (L := L') (d := d) a3 HDR.out.1 HDR.out.2 (by rw [HLE.out.2]; exact .inl h1)
                rw [HA.out.1] at hnx
                have HNX := hide hnx
                have HPH := hide hph
                clear hnx hph hwa
                obtain ⟨W6, hW6⟩ : ∃ W6, W5.alloc (.cells #[.int .i64 (a : Int)] 3) = W6 := ⟨_, rfl⟩
                have hb6 : Below W5.heap.size W5 W6 := by rw [← hW6]; exact (Below.refl _ _).alloc (Nat.le_refl _) _
                have nb6 : W6.heap[W5.heap.size]? = some (.cells #[.int .i64 (a : Int)] 3 (0, 0)) := by rw [← hW6]; exact heap_new _ _ rfl
                have bx6 := (hb6.block _ (lt_of_block bx5)).trans bx5
                have M6 := (HM5.out.under hb6).under (below_drewN (Below.refl _ W6) 1)
                obtain ⟨aq3, cq3, w7, hrun, M7, hty, hz7⟩ := M6.push (b := W5.heap.size) (a := a) nb6 (by have := HK2.out; have := HK0.out; omega)
                have bx7 := (hty _ _ _ wr.heap.size bx6 (by decide)).trans bx6
                have h60 := cell_of bx6 (o := 0) rfl
                have h70 := cell_of bx7 (o := 0) rfl
                have wa7 := M7.wcell a3
                have wf7 := M7.wfz a
                have HM8 := hide (M7.setW a3 true)
                rw [z5] at hrun
                have HRUN := hide hrun
                have lt7 := M7.lt.2
                clear hb6 nb6 M6 M7 hty bx6 bx7 hrun hz7
                go_upto_region 14 with fail
                go_region_law (refine step_append_eq (by rfl) _ _ 24 (by rfl) (by rfl) (by rfl) HRUN.out ?_)
                all_goals
                  go_wp2
                  go_roundg (G2 - 1)
                  case measure => have := hgk; omega
                  case rel => exact ⟨k + 1, _, _, _, by go_num, by omega, by omega, HM8, HNX.out.1, HNX.out.2, by have := HK2.out.1; have := HPH.out; rw [List.length_append, List.length_singleton]; omega, HK2.out.2⟩
            · have g1 : (la != -2) = true := by simpa using h1
              by_cases h2 : la ≤ d
              · have g2 : decide (la ≤ d) = true := by simpa using h2
                have hnx := hide (HI3.out.skip (by rw [HA.out.1, HLE.out.2, HLE.out.1, HA.out.2]; exact ⟨h1, by have := HD.out; rw [HLE.out.1, HA.out.2] at this; omega⟩))
                go_wp2
                go_roundg (G2 - 1)
                case measure => have := hgk; omega
                case rel => exact ⟨k + 1, _, _, _, by go_num, by omega, by omega, M4, hnx, HL2, HK2.out.1, HK2.out.2⟩
              · have g2 : decide (la ≤ d) = false := by simpa using h2
                go_upto_region 12 with fail
                have M5 := M4.out.setL a3 d
                go_upto_region 13 with fail
                obtain ⟨W5, hW5⟩ : ∃ W5, (W3.drewN nq).setCell ⟨bl, a, none⟩ (.int .i64 d) = W5 := ⟨_, rfl⟩
                have bx5 : W5.heap[wr.heap.size]? = some (.cells #[.int .i64 (a : Int), .int .i64 r] 59 (0, 0)) := by rw [← hW5, Below.heap_setCell _ _ _ _ (show wr.heap.size ≠ bl from fun e => HNE.out e.symm)]; exact HBX.out
                have z5 : W5.heap.size = wr.heap.size + 1 := by rw [← hW5]; simpa using z3
                rw [hW5] at M5 ⊢
                have g0 := cell_of bx5 (o := 0) rfl
                have g1 := cell_of bx5 (o := 1) rfl
                have wa5 := M5.wcell a3
                have wf5 := M5.wfz a
                have HM5 := hide M5
                clear hW5 f0 f1 lt3 la3 wa3 lf3 M5
                cases hwa : W' a with
                | true =>
                  rw [hwa] at wa5
                  have hnx := HI3.out.relax HS.out HB.out HPM.out HL2.out HD.out (by rw [HA.out.1, HLE.out.2]; exact .inr (by omega)) (W' := W') (q' := q') (.inl ⟨by rw [HA.out.1]; exact hwa, rfl, rfl⟩)
                  have hph := phi_less (B := B) (L := L') (d := d) a3 HDR.out.1 HDR.out.2 (by rw [HLE.out.2]; exact .inr (by omega))
                  rw [HA.out.1] at hnx
                  have HNX := hide hnx
                  have HPH := hide hph
                  clear hnx hph hwa
                  go_wp2
                  go_roundg (G2 - 1)
                  case measure => have := hgk; omega
                  case rel => exact ⟨k + 1, _, _, _, by go_num, by omega, by omega, HM5, HNX.out.1, HNX.out.2, by have := HK2.out.1; have := HPH.out; omega, HK2.out.2⟩
                | false =>
                  rw [hwa] at wa5
                  have hnx := HI3.out.relax HS.out HB.out HPM.out HL2.out HD.out (by rw [HA.out.1, HLE.out.2]; exact .inr (by omega)) (W' := upf W' a true) (q' := q' ++ [a]) (.inr ⟨by rw [HA.out.1], by rw [HA.out.1]⟩)
                  have hph := phi_less (B := B) (L := L') (d := d) a3 HDR.out.1 HDR.out.2 (by rw [HLE.out.2]; exact .inr (by omega))
                  rw [HA.out.1] at hnx
                  have HNX := hide hnx
                  have HPH := hide hph
                  clear hnx hph hwa
                  obtain ⟨W6, hW6⟩ : ∃ W6, W5.alloc (.cells #[.int .i64 (a : Int)] 3) = W6 := ⟨_, rfl⟩
                  have hb6 : Below W5.heap.size W5 W6 := by rw [← hW6]; exact (Below.refl _ _).alloc (Nat.le_refl _) _
                  have nb6 : W6.heap[W5.heap.size]? = some (.cells #[.int .i64 (a : Int)] 3 (0, 0)) := by rw [← hW6]; exact heap_new _ _ rfl
                  have bx6 := (hb6.block _ (lt_of_block bx5)).trans bx5
                  have M6 := (HM5.out.under hb6).under (below_drewN (Below.refl _ W6) 1)
                  obtain ⟨aq3, cq3, w7, hrun, M7, hty, hz7⟩ := M6.push (b := W5.heap.size) (a := a) nb6 (by have := HK2.out; have := HK0.out; omega)
                  have bx7 := (hty _ _ _ wr.heap.size bx6 (by decide)).trans bx6
                  have h60 := cell_of bx6 (o := 0) rfl
                  have h70 := cell_of bx7 (o := 0) rfl
                  have wa7 := M7.wcell a3
                  have wf7 := M7.wfz a
                  have HM8 := hide (M7.setW a3 true)
                  rw [z5] at hrun
                  have HRUN := hide hrun
                  have lt7 := M7.lt.2
                  clear hb6 nb6 M6 M7 hty bx6 bx7 hrun hz7
                  go_upto_region 14 with fail
                  go_region_law (refine step_append_eq (by rfl) _ _ 24 (by rfl) (by rfl) (by rfl) HRUN.out ?_)
                  all_goals
                    go_wp2
                    go_roundg (G2 - 1)
                    case measure => have := hgk; omega
                    case rel => exact ⟨k + 1, _, _, _, by go_num, by omega, by omega, HM8, HNX.out.1, HNX.out.2, by have := HK2.out.1; have := HPH.out; rw [List.length_append, List.length_singleton]; omega, HK2.out.2⟩
          · obtain rfl : k = m := by omega
            have hd0 : (row fs t).drop k = [] := List.drop_eq_nil_of_le (by have := HMm.out; rw [List.length_map] at this; omega)
            have HI3 := HI2.out
            rw [hd0] at HI3
            have HI3 := hide HI3
            clear HI2
            go_wp2
            go_roundg (G1 - 1)
            case measure => have := HK2.out; omega
            case rel => exact ⟨_, _, _, _, HM2, HI3, by have := HK2.out; omega, by have := HK2.out; omega⟩
end Go.Proofs.Ytlbildodjnjniaa
