/- The law LiveMore. -/
import Derived.Test.YtaejhppfcmeopaaLwN
namespace Go.Proofs.Ytaejhppfcmeopaa
open Go.RowKit
section
variable {w : World}
set_option maxRecDepth 100000 in
set_option maxHeartbeats 8000000 in
theorem more_law {v : Value} {bs : List Blk} (k : Int) (R : BlksAt w v bs) (hbd : Bnd bs) {x y : Nat} (hx16 : x < 65536) (hy16 : y < 65536) : Calls Try.prog 8 #[v, .int .i64 k, .int .u16 x, .int .u16 y] w fun e w' => e = .returned (.bool true) ∧ Below w.heap.size w w' := by
  have hs := solve_any k R
  have ha := fun W : World => awake_any W
  by_cases h0 : fltP bs k = 0
  · obtain ⟨K, rfl, S⟩ := snd_of h0
    rw [h0] at hs
    have hl := S.l
    have hKK := S.v
    have hsm := fun (W : World) (h : Below w.heap.size w W) => small_any (R.below h) hl
    have HR := hide R
    have HSM := hide hsm
    have HS := hide S
    obtain ⟨ao, cap, rfl, _⟩ := R
    obtain ⟨n, hn⟩ : ∃ n, bs.length = n := ⟨_, rfl⟩
    have HN := hide hn
    rw [hn] at hs HSM hl HR ⊢
    have hn2 : (n : Int) ≤ 512 := by omega
    have hK2 : (K : Int) ≤ 4096 := by omega
    have HBD := hide hbd
    clear hsm S hn h0 hbd
    go_enter Try.func8, Try.ntmps8
    go_upto_region 2 with (go_at_call 9; with_reducible refine hs.mono ?_; rintro e w1 ⟨⟨v1, v2, rfl, hO⟩, hb1⟩; have HO := hide (And.intro hO hb1); clear hO hb1)
    obtain ⟨q1, q2⟩ := HO.out.1.2 K rfl HS.out
    have hb1 := HO.out.2
    obtain ⟨a1, c1, rfl⟩ := q1.slice
    obtain ⟨a2, c2, rfl⟩ := q2.slice
    rw [res_in_len, HN.out] at q1
    rw [res_out_len, HN.out] at q2
    rw [res_in_len, res_out_len, HN.out]
    have HQ := hide (And.intro q1 (And.intro q2 hb1))
    clear q1 q2 hb1 HO hs
    have hsm1 := HSM.out
    have HA := hide ha
    clear ha HSM
    by_cases hn0 : n = 0
    · subst hn0
      clear hsm1
      go_wp2_with (first
        | (have kk := hb2; clear kk; go_at_call 11; refine (HA.out _).mono ?_; rintro e w3 ⟨rfl, hb3⟩)
        | (go_at_call 11; refine (HA.out _).mono ?_; rintro e w2 ⟨rfl, hb2⟩))
      go_ret
      exact ⟨rfl, HQ.out.2.2.trans ((hb2.trans (hb3.mono hb2.size)).mono HQ.out.2.2.size)⟩
    · have hnz : ((n : Int) == 0) = false := by simp; omega
      by_cases hk0 : K = 0
      · subst hk0
        clear hsm1
        go_wp2_with (first
          | (have kk := hb2; clear kk; go_at_call 11; refine (HA.out _).mono ?_; rintro e w3 ⟨rfl, hb3⟩)
          | (go_at_call 11; refine (HA.out _).mono ?_; rintro e w2 ⟨rfl, hb2⟩))
        go_ret
        exact ⟨rfl, HQ.out.2.2.trans ((hb2.trans (hb3.mono hb2.size)).mono HQ.out.2.2.size)⟩
      · have hkz : ((K : Int) == 0) = false := by simp; omega
        go_wp2_with (first
          | (have kk := hb3; clear kk; go_at_call 11; refine (HA.out _).mono ?_; rintro e w4 ⟨rfl, hb4⟩)
          | (go_at_call 12; with_reducible refine (hsm1 w2 (HQ.out.2.2.trans (hb2.mono HQ.out.2.2.size))).mono ?_; rintro e w3 ⟨⟨r, rfl, HSP⟩, hb3⟩; cases r)
          | (go_at_call 11; refine (HA.out _).mono ?_; rintro e w2 ⟨rfl, hb2⟩))
        · go_ret
          have hb5 := hb2.trans (hb3.mono hb2.size)
          exact ⟨rfl, HQ.out.2.2.trans ((hb5.trans (hb4.mono hb5.size)).mono HQ.out.2.2.size)⟩
        · have HSMH := hide (HSP.out HBD.out).symm
          have M3 : Hid (BlksAt w3 (.slice ao n cap) bs ∧ LsAt w3 (.slice a1 n c1) (resIn bs K) ∧ LsAt w3 (.slice a2 n c2) (resOut bs K) ∧ Below w.heap.size w w3) := hide (by
            have hb5 := hb2.trans (hb3.mono hb2.size)
            have hb6 := HQ.out.2.2.trans (hb5.mono HQ.out.2.2.size)
            exact ⟨HR.out.below hb6, HQ.out.1.below hb5, HQ.out.2.1.below hb5, hb6⟩)
          clear HQ HR hb2 hb3 hsm1 HA HSP
          have hbm : x % n < n := Nat.mod_lt _ (by omega)
          have hxm : y % K < K := Nat.mod_lt _ (by omega)
          have em1 : (x : Int).tmod (n : Int) = ((x % n : Nat) : Int) := by rw [Int.tmod_eq_emod_of_nonneg (by omega)]; exact (Int.natCast_emod x n).symm
          have em2 : (y : Int).tmod (K : Int) = ((y % K : Nat) : Int) := by rw [Int.tmod_eq_emod_of_nonneg (by omega)]; exact (Int.natCast_emod y K).symm
          have en1 : (x : Int) % (n : Int) = ((x % n : Nat) : Int) := (Int.natCast_emod x n).symm
          have en2 : (y : Int) % (K : Int) = ((y % K : Nat) : Int) := (Int.natCast_emod y K).symm
          have ew1 : IntKind.i64.wrap ((x % n : Nat) : Int) = ((x % n : Nat) : Int) := wrap_id (by omega) (by omega)
          have ew2 : IntKind.i64.wrap ((y % K : Nat) : Int) = ((y % K : Nat) : Int) := wrap_id (by omega) (by omega)
          have hx2 : (x : Int) < 65536 := by omega
          have hy2 : (y : Int) < 65536 := by omega
          have hnz2 : (n : Int) ≠ 0 := by omega
          have hkz2 : (K : Int) ≠ 0 := by omega
          generalize x % n = bn at *
          generalize y % K = xv at *
          go_region
          clear em1 em2 en1 en2 ew1 ew2
          obtain ⟨w4, hw4⟩ : ∃ w4, w3.drew = w4 := ⟨_, rfl⟩
          have M4 : Hid (BlksAt w4 (.slice ao n cap) bs ∧ LsAt w4 (.slice a1 n c1) (resIn bs K) ∧ LsAt w4 (.slice a2 n c2) (resOut bs K) ∧ Below w.heap.size w w4) := hide (by
            have hd : Below w3.heap.size w3 w4 := by rw [← hw4]; exact (Below.refl _ _).drew
            obtain ⟨m1, m2, m3, m4⟩ := M3.out
            exact ⟨m1.below hd, m2.below hd, m3.below hd, m4.trans (hd.mono m4.size)⟩)
          rw [hw4]
          clear hw4 M3
          obtain ⟨b, hb⟩ : ∃ b, bs[bn]? = some b := ⟨bs[bn]'(by rw [HN.out]; exact hbm), by simp⟩
          have hsl := small_len HSMH.out hb
          have HB := hide hb
          have HBM := hide (And.intro hbm hxm)
          go_upto_region 5 with (fail)
          go_cut [14] from 58 to 60 (fun v14 wq => ∃ g cap', v14 = .slice (some ⟨g, 0, none⟩) n cap' ∧ Hid (∃ f, Cpy w4 wq g n f bs ∧ ∀ (j : Nat) (b : Blk), bs[j]? = some b → IntsAt w4 (f j).1 b.u ∧ IntsAt w4 (f j).2.1 b.d ∧ IntsAt w4 (f j).2.2 b.n))
          case first =>
            have hba : Below w4.heap.size w4 (w4.alloc (.cells #[] 41)) := (Below.refl _ _).alloc (Nat.le_refl _) _
            obtain ⟨g, cap', w5, f, hr1, C1, hold⟩ := copy_blks M4.out.1 hba (heap_new _ _ rfl) (Nat.le_refl _) (by omega) hl
            have HR1 := hide hr1
            have HF : Hid (∃ f, Cpy w4 w5 g n f bs ∧ ∀ (j : Nat) (b : Blk), bs[j]? = some b → IntsAt w4 (f j).1 b.u ∧ IntsAt w4 (f j).2.1 b.d ∧ IntsAt w4 (f j).2.2 b.n) := hide ⟨f, C1, hold⟩
            clear hba hr1 C1 hold
            go_wp2_with (refine wpList_append_eq (by rfl) _ _ 22 (by rfl) (by rfl) (by rfl) HR1.out ?_)
            go_meet
            exact ⟨g, cap', rfl, HF⟩
          case rest =>
            obtain ⟨g, cap', rfl, HF⟩ := hcut
            obtain ⟨w5, hw5⟩ : ∃ W, W = wc := ⟨wc, rfl⟩
            rw [← hw5] at HF ⊢
            clear hw5 wc
            go_upto_region 6 with (fail)
            go_cut [] from 61 to 74 (fun wq => Hid (∃ f, Cpy w4 wq g n f (bs.set bn ⟨b.u ++ [(xv : Int)], b.d, b.n⟩)))
            case first =>
              obtain ⟨f, C1, hold⟩ := HF.out
              obtain ⟨g4, o4, au, cu, ad, cd, an, cn, rfl, hg4, e4, _, _, IU, _, _⟩ := M4.out.1.get hb
              have h56 : Below w5.heap.size w5 (w5.alloc (.cells #[] 3)) := (Below.refl _ _).alloc (Nat.le_refl _) _
              have h46 : Below w4.heap.size w4 (w5.alloc (.cells #[] 3)) := C1.bel.trans (h56.mono C1.bel.size)
              have ho0 : (w5.alloc (.cells #[] 3)).ownsRow w5.heap.size 3 1 (.slice (some ⟨w5.heap.size, 0, none⟩) 0 0) ([] : List Int).length (ints []) := ⟨rfl, .inr ⟨w5.heap.size, 0, #[], rfl, Nat.le_refl _, heap_new _ _ rfl, Nat.le_refl _, by simp, rfl, rfl⟩⟩
              obtain ⟨u1, w7, hr2, ho1, hu1, hgr1⟩ := row_app ho0 ⟨_, _, _, rfl⟩ h56.size (IU.below h46) (by simp; omega)
              rw [List.nil_append] at ho1
              obtain ⟨b1, m1, c1', rfl⟩ := hu1
              have h57 : Below w5.heap.size w5 w7 := h56.trans ⟨hgr1.os, hgr1.tape, hgr1.output, hgr1.size, fun j hj => hgr1.block j (Nat.lt_of_lt_of_le hj h56.size) fun e => by have := (ho0.lt j e.symm).1; omega⟩
              have h78 : Below w7.heap.size w7 (w7.alloc (.cells #[.int .i64 xv] 3)) := (Below.refl _ _).alloc (Nat.le_refl _) _
              have h58 : Below w5.heap.size w5 (w7.alloc (.cells #[.int .i64 xv] 3)) := h57.trans (h78.mono h57.size)
              have ho2 := ownsRow_keep ho1 (w' := w7.alloc (.cells #[.int .i64 xv] 3)) fun g hg => h78.block g (ho1.lt g hg).2
              obtain ⟨g2, cap2, w9, hr3, ho3, hgr2, _, lg2⟩ := run_appI ho2 (heap_new _ _ rfl) (by omega) h58.size
              have h59 : Below w5.heap.size w5 w9 := h58.trans ⟨hgr2.os, hgr2.tape, hgr2.output, hgr2.size, fun j hj => hgr2.block j (Nat.lt_of_lt_of_le hj h58.size) fun e => by have := (ho2.lt j e.symm).1; omega⟩
              have C9 := C1.under h59
              have hI9 : IntsAt w9 (.slice (some ⟨g2, 0, none⟩) (b.u.length + 1) cap2) (b.u ++ [(xv : Int)]) := by
                have h := IntsAt.of_row (l := b.u ++ [(xv : Int)]) (v := .slice (some ⟨g2, 0, none⟩) (b.u.length + 1) cap2) (B := w5.heap.size) (w := w9) (by rw [List.length_append, show ints (b.u ++ [(xv : Int)]) = ints b.u ++ [.int .i64 xv] by simp [ints]]; exact ho3) (by rw [List.length_append]; simp; omega)
                exact h
              have hgl : g < w5.heap.size := by obtain ⟨_, h1, _⟩ := C1.blk; exact lt_of_block h1
              have hg2 : g2 ≠ g := fun e => by have := (ho3.lt g2 rfl).1; omega
              have C10 := Cpy.set C9 hb hI9 (fun g' o n' c e => by cases e; exact hg2) hold
              obtain ⟨cur, hcur, hcs, hcell⟩ := C9.blk
              obtain ⟨_, _, hfv⟩ := (C9.ints bn b hb).1.slice
              have cst := cell_of hcur (hcell bn hbm).1
              rw [hfv] at cst
              have fst := fz_of (bn * 3) hcur
              have lst := lt_of_block hcur
              have HC10 : Hid (∃ f, Cpy w4 (w9.setCell ⟨g, bn * 3, none⟩ (.slice (some ⟨g2, 0, none⟩) (b.u.length + 1) cap2)) g n f (bs.set bn ⟨b.u ++ [(xv : Int)], b.d, b.n⟩)) := hide ⟨_, C10⟩
              have HR2 := hide hr2
              have HR3 := hide hr3
              have k4 : (w5.alloc (.cells #[] 3)).cell? ⟨g4, o4 + bn * 3, none⟩ = some (.slice au b.u.length cu) := by rw [keep_cell h46 hg4]; exact e4
              have lg4 : g4 < w5.heap.size := Nat.lt_of_lt_of_le hg4 C1.bel.size
              have hbn2 : (bn : Int) < (n : Int) := by omega
              clear h56 h46 ho0 ho1 hgr1 h57 h78 h58 ho2 ho3 hgr2 h59 C9 hI9 hgl hg2 C10 hcur hcs hcell hr2 hr3 hold C1 hb IU e4 hg4 lg2 hfv
              generalize hul : b.u.length = mu at *
              go_wp2_with (first
                | (have kk := st2; clear kk; refine wpList_append_eq (by rfl) _ _ 34 (by rfl) (by rfl) (by rfl) HR3.out ?_)
                | (refine wpList_append_eq (by rfl) _ _ 34 (by rfl) (by rfl) (by rfl) HR2.out ?_; have st2 : True := trivial))
              go_meet
              exact HC10
            case rest =>
              obtain ⟨f, C10⟩ := hcut.out
              obtain ⟨w6, hw6⟩ : ∃ W, W = wc := ⟨wc, rfl⟩
              rw [← hw6] at C10 ⊢
              clear hw6 wc hcut HF
              have S2 := more_snd HS.out hb hxm
              have hs2 := solve_any (K : Int) (C10.blks (cap := cap'))
              rw [snd_flt S2 rfl] at hs2
              have HS2 := hide (And.intro S2 C10.bel)
              clear S2 C10
              have hlsq : (bs.set bn ⟨b.u ++ [(xv : Int)], b.d, b.n⟩).length = n := by rw [List.length_set]; exact HN.out
              have HLQ := hide hlsq
              clear hlsq
              go_upto_region 8 with (go_at_call 9; with_reducible refine hs2.mono ?_; rintro e w11 ⟨⟨v3, v4, rfl, hO⟩, hb11⟩; have HO2 := hide (And.intro hO hb11); clear hO hb11)
              obtain ⟨q3, q4⟩ := HO2.out.1.2 K rfl HS2.out.1
              obtain ⟨a3, c3, rfl⟩ := q3.slice
              obtain ⟨a4, c4, rfl⟩ := q4.slice
              rw [res_in_len, HLQ.out] at q3
              rw [res_out_len, HLQ.out] at q4
              rw [res_in_len, res_out_len, HLQ.out]
              have HC := hide (And.intro q3 (And.intro q4 (HS2.out.2.trans (HO2.out.2.mono HS2.out.2.size))))
              clear q3 q4 HO2 hs2 HS2
              obtain ⟨W, hW⟩ : ∃ W, W = w11 := ⟨w11, rfl⟩
              rw [← hW] at HC ⊢
              clear hW w11
              have M5 : Hid (LsAt W (.slice a1 n c1) (resIn bs K) ∧ LsAt W (.slice a2 n c2) (resOut bs K) ∧ LsAt W (.slice a3 n c3) (resIn (bs.set bn ⟨b.u ++ [(xv : Int)], b.d, b.n⟩) K) ∧ LsAt W (.slice a4 n c4) (resOut (bs.set bn ⟨b.u ++ [(xv : Int)], b.d, b.n⟩) K) ∧ Below w.heap.size w W) := hide ⟨M4.out.2.1.below HC.out.2.2, M4.out.2.2.1.below HC.out.2.2, HC.out.1, HC.out.2.1, M4.out.2.2.2.trans (HC.out.2.2.mono M4.out.2.2.2.size)⟩
              have hls : (bs.set bn ⟨b.u ++ [(xv : Int)], b.d, b.n⟩).length = n := by rw [List.length_set]; exact HN.out
              have HLS := hide hls
              have hbn2 : (bn : Int) < (n : Int) := by omega
              obtain ⟨g3, o3, a5, c5, rfl, l3, k3, I3⟩ := M5.out.2.2.1.list (res_in (K := K) (i := bn) (by rw [hls]; exact hbm))
              have hh := has13_any (xv : Int) I3
              rw [more_new HS.out HB.out hxm] at hh
              generalize hly : (zs (inL (bs.set bn ⟨b.u ++ [(xv : Int)], b.d, b.n⟩) K bn)).length = my at *
              clear HC M4 hb hls I3 hly hbm hxm
              go_wp2_with (go_at_call 20; with_reducible refine hh.mono ?_; rintro e w6 ⟨rfl, hw6⟩; rw [hw6]; clear hw6 w6)
              clear k3 l3
              go_loopw [18, 19, 20] (fun i _ _ wr => ∃ i' : Nat, i' ≤ n ∧ i = .int .i64 i' ∧ Hid (Below W.heap.size W wr)) (fun i _ _ _ => n - (intOf i).toNat)
              case atStart => exact ⟨0, Nat.zero_le _, rfl, Below.refl _ _⟩
              case round =>
                obtain ⟨i, hi, rfl, HW1⟩ := hrel
                obtain ⟨W1, rfl⟩ : ∃ X, X = wr := ⟨wr, rfl⟩
                by_cases hin : i < n
                · have hib : i < bs.length := by rw [HN.out]; exact hin
                  have hib2 : i < (bs.set bn ⟨b.u ++ [(xv : Int)], b.d, b.n⟩).length := by rw [HLS.out]; exact hin
                  have hin2 : (i : Int) < (n : Int) := by omega
                  obtain ⟨gi, oi, ai, ci, rfl, li, ki, II⟩ := M5.out.1.list (res_in (K := K) hib)
                  obtain ⟨go, oo, ao2, co, rfl, lo, ko, IO⟩ := M5.out.2.1.list (res_out (K := K) hib)
                  obtain ⟨g3', o3', aa, ca, e3, la, ka, IA⟩ := M5.out.2.2.1.list (res_in (K := K) hib2)
                  cases e3
                  obtain ⟨g4, o4, ab, cb, rfl, lb, kb, IB⟩ := M5.out.2.2.2.1.list (res_out (K := K) hib2)
                  have HC2 : Hid (∀ X : World, Below W.heap.size W X → (X.cell? ⟨gi, oi + i, none⟩ = some (.slice ai (zs (inL bs K i)).length ci) ∧ X.cell? ⟨g3, o3 + i, none⟩ = some (.slice aa (zs (inL (bs.set bn ⟨b.u ++ [(xv : Int)], b.d, b.n⟩) K i)).length ca) ∧ X.cell? ⟨go, oo + i, none⟩ = some (.slice ao2 (zs (outL bs K i)).length co) ∧ X.cell? ⟨g4, o4 + i, none⟩ = some (.slice ab (zs (outL (bs.set bn ⟨b.u ++ [(xv : Int)], b.d, b.n⟩) K i)).length cb)) ∧ (gi < X.heap.size ∧ g3 < X.heap.size ∧ go < X.heap.size ∧ g4 < X.heap.size) ∧ IntsAt X (.slice ai (zs (inL bs K i)).length ci) (zs (inL bs K i)) ∧ IntsAt X (.slice aa (zs (inL (bs.set bn ⟨b.u ++ [(xv : Int)], b.d, b.n⟩) K i)).length ca) (zs (inL (bs.set bn ⟨b.u ++ [(xv : Int)], b.d, b.n⟩) K i)) ∧ IntsAt X (.slice ao2 (zs (outL bs K i)).length co) (zs (outL bs K i)) ∧ IntsAt X (.slice ab (zs (outL (bs.set bn ⟨b.u ++ [(xv : Int)], b.d, b.n⟩) K i)).length cb) (zs (outL (bs.set bn ⟨b.u ++ [(xv : Int)], b.d, b.n⟩) K i))) := hide (fun X hX =>
                    ⟨⟨by rw [keep_cell hX li]; exact ki, by rw [keep_cell hX la]; exact ka, by rw [keep_cell hX lo]; exact ko, by rw [keep_cell hX lb]; exact kb⟩, ⟨Nat.lt_of_lt_of_le li hX.size, Nat.lt_of_lt_of_le la hX.size, Nat.lt_of_lt_of_le lo hX.size, Nat.lt_of_lt_of_le lb hX.size⟩, II.below hX, IA.below hX, IO.below hX, IB.below hX⟩)
                  have bmi : ((zs (inL bs K i)).length : Int) ≤ 9223372036854775807 := by have := II.len; omega
                  have bmo : ((zs (outL bs K i)).length : Int) ≤ 9223372036854775807 := by have := IO.len; omega
                  clear ki ko ka kb li lo la lb II IO IA IB hib hib2
                  generalize hl1 : (zs (inL bs K i)).length = mi at *
                  generalize hl2 : (zs (outL bs K i)).length = mo at *
                  generalize (zs (inL (bs.set bn ⟨b.u ++ [(xv : Int)], b.d, b.n⟩) K i)).length = ma at *
                  generalize (zs (outL (bs.set bn ⟨b.u ++ [(xv : Int)], b.d, b.n⟩) K i)).length = mb at *
                  have HLL := hide (And.intro hl1 hl2)
                  clear hl1 hl2
                  go_wp2
                  go_loopw [19] (fun i wr => ∃ p : Nat, p ≤ mi ∧ i = .int .i64 p ∧ Hid (Below W.heap.size W wr)) (fun i _ => mi - (intOf i).toNat)
                  case atStart => exact ⟨0, Nat.zero_le _, rfl, HW1.out⟩
                  case round =>
                    obtain ⟨p, hp, rfl, HX⟩ := hrel
                    obtain ⟨X, rfl⟩ : ∃ X, X = wr := ⟨wr, rfl⟩
                    obtain ⟨⟨x1, x2, x3, x4⟩, ⟨s1, s2, s3, s4⟩, I1, I2, I3, I4⟩ := HC2.out X HX.out
                    by_cases hpl : p < mi
                    · obtain ⟨x, hx⟩ : ∃ x, (zs (inL bs K i))[p]? = some x := ⟨(zs (inL bs K i))[p]'(by rw [HLL.out.1]; exact hpl), by simp⟩
                      have hmr := more_in HS.out HB.out HBM.out.2 (List.mem_of_getElem? hx)
                      obtain ⟨gx, ox, rfl, lx, kx⟩ := I1.cell hx
                      have hh := has13_any (w := X.drewN 1) x (I2.below (below_drewN (Below.refl _ _) 1))
                      rw [hmr] at hh
                      have bp : (p : Int) < (mi : Int) := by omega
                      have HC5 : Hid (∀ Z : World, Z.heap = X.heap → Z.cell? ⟨g3, o3 + i, none⟩ = some (.slice aa ma ca) ∧ Z.cell? ⟨gi, oi + i, none⟩ = some (.slice (some ⟨gx, ox, none⟩) mi ci) ∧ Z.cell? ⟨gx, ox + p, none⟩ = some (.int .i64 x)) := hide (fun Z hZ => by
                        have hz : ∀ (g o : Nat), Z.cell? ⟨g, o, none⟩ = X.cell? ⟨g, o, none⟩ := fun g o => World.cell?_of_block (a := ⟨g, o, none⟩) (by rw [hZ])
                        rw [hz, hz, hz]
                        exact ⟨x2, x1, kx⟩)
                      clear I1 I2 I3 I4 hx hmr
                      go_wp2_with fail
                      refine wp_region_held_drew (S := (fun Z : World => Z.cell? ⟨g3, o3 + i, none⟩ = some (.slice aa ma ca) ∧ Z.cell? ⟨gi, oi + i, none⟩ = some (.slice (some ⟨gx, ox, none⟩) mi ci) ∧ Z.cell? ⟨gx, ox + p, none⟩ = some (.int .i64 x))) (by kernel_rfl) (HC5.out _ rfl) (fun hHeld1 => ?_)
                      refine wpAnyH_take (i := 0) (oi := { dst := some 115, op := Go.Op.move (Go.Operand.tmp 15), type := 23, pos := "law.go:142", after := #[], guard := none }) (v := ?v2) rfl (by kernel_rfl) (by kernel_rfl) (by kernel_rfl) (fun _ _ _ h => h) (Or.inl ⟨by rfl, ?hy2⟩) (by assumption) ?_
                      case hy2 => (intro W hSw; (try dsimp only at hSw); go_simp; try with_reducible rfl)
                      try simp only [Act.put, List.setIfInBounds_toArray, List.set_cons_zero, List.set_cons_succ]
                      refine wpAnyH_take (i := 1) (oi := { dst := some 116, op := Go.Op.move (Go.Operand.tmp 18), type := 3, pos := "law.go:142", after := #[], guard := none }) (v := ?v3) rfl (by kernel_rfl) (by kernel_rfl) (by kernel_rfl) (fun _ _ _ h => h) (Or.inl ⟨by rfl, ?hy3⟩) (by assumption) ?_
                      case hy3 => (intro W hSw; (try dsimp only at hSw); go_simp; try with_reducible rfl)
                      try simp only [Act.put, List.setIfInBounds_toArray, List.set_cons_zero, List.set_cons_succ]
                      refine wpAnyH_take (i := 2) (oi := { dst := some 117, op := Go.Op.indexAddr 23 (Go.Operand.tmp 115) (Go.Operand.tmp 116), type := 0, pos := "law.go:142", after := #[{ on := 0, ground := Go.Ground.data }, { on := 1, ground := Go.Ground.data }], guard := none }) (v := ?v4) rfl (by kernel_rfl) (by kernel_rfl) (by kernel_rfl) (fun _ _ _ h => h) (Or.inl ⟨by rfl, ?hy4⟩) (by assumption) ?_
                      case hy4 => (intro W hSw; (try dsimp only at hSw); go_simp; try with_reducible rfl)
                      try simp only [Act.put, List.setIfInBounds_toArray, List.set_cons_zero, List.set_cons_succ]
                      refine wpAnyH_take (i := 3) (oi := { dst := some 118, op := Go.Op.load 34 (Go.Operand.tmp 117), type := 34, pos := "law.go:142", after := #[{ on := 2, ground := Go.Ground.data }], guard := none }) (v := ?v5) rfl (by kernel_rfl) (by kernel_rfl) (by kernel_rfl) (fun _ _ _ h => h) (Or.inl ⟨by rfl, ?hy5⟩) (by assumption) ?_
                      case hy5 => (intro W hSw; (try dsimp only at hSw); go_simp; try with_reducible rfl)
                      try simp only [Act.put, List.setIfInBounds_toArray, List.set_cons_zero, List.set_cons_succ]
                      refine wpAnyH_take (i := 4) (oi := { dst := some 119, op := Go.Op.move (Go.Operand.tmp 9), type := 23, pos := "law.go:142", after := #[], guard := none }) (v := ?v6) rfl (by kernel_rfl) (by kernel_rfl) (by kernel_rfl) (fun _ _ _ h => h) (Or.inl ⟨by rfl, ?hy6⟩) (by assumption) ?_
                      case hy6 => (intro W hSw; (try dsimp only at hSw); go_simp; try with_reducible rfl)
                      try simp only [Act.put, List.setIfInBounds_toArray, List.set_cons_zero, List.set_cons_succ]
                      refine wpAnyH_take (i := 5) (oi := { dst := some 120, op := Go.Op.move (Go.Operand.tmp 18), type := 3, pos := "law.go:142", after := #[], guard := none }) (v := ?v7) rfl (by kernel_rfl) (by kernel_rfl) (by kernel_rfl) (fun _ _ _ h => h) (Or.inl ⟨by rfl, ?hy7⟩) (by assumption) ?_
                      case hy7 => (intro W hSw; (try dsimp only at hSw); go_simp; try with_reducible rfl)
                      try simp only [Act.put, List.setIfInBounds_toArray, List.set_cons_zero, List.set_cons_succ]
                      refine wpAnyH_take (i := 6) (oi := { dst := some 121, op := Go.Op.indexAddr 23 (Go.Operand.tmp 119) (Go.Operand.tmp 120), type := 0, pos := "law.go:142", after := #[{ on := 4, ground := Go.Ground.data }, { on := 5, ground := Go.Ground.data }], guard := none }) (v := ?v8) rfl (by kernel_rfl) (by kernel_rfl) (by kernel_rfl) (fun _ _ _ h => h) (Or.inl ⟨by rfl, ?hy8⟩) (by assumption) ?_
                      case hy8 => (intro W hSw; (try dsimp only at hSw); go_simp; try with_reducible rfl)
                      try simp only [Act.put, List.setIfInBounds_toArray, List.set_cons_zero, List.set_cons_succ]
                      refine wpAnyH_take (i := 7) (oi := { dst := some 122, op := Go.Op.load 34 (Go.Operand.tmp 121), type := 34, pos := "law.go:142", after := #[{ on := 6, ground := Go.Ground.data }], guard := none }) (v := ?v9) rfl (by kernel_rfl) (by kernel_rfl) (by kernel_rfl) (fun _ _ _ h => h) (Or.inl ⟨by rfl, ?hy9⟩) (by assumption) ?_
                      case hy9 => (intro W hSw; (try dsimp only at hSw); go_simp; try with_reducible rfl)
                      try simp only [Act.put, List.setIfInBounds_toArray, List.set_cons_zero, List.set_cons_succ]
                      refine wpAnyH_take (i := 8) (oi := { dst := some 123, op := Go.Op.move (Go.Operand.tmp 19), type := 3, pos := "law.go:142", after := #[], guard := none }) (v := ?v10) rfl (by kernel_rfl) (by kernel_rfl) (by kernel_rfl) (fun _ _ _ h => h) (Or.inl ⟨by rfl, ?hy10⟩) (by assumption) ?_
                      case hy10 => (intro W hSw; (try dsimp only at hSw); go_simp; try with_reducible rfl)
                      try simp only [Act.put, List.setIfInBounds_toArray, List.set_cons_zero, List.set_cons_succ]
                      refine wpAnyH_take (i := 9) (oi := { dst := some 124, op := Go.Op.indexAddr 34 (Go.Operand.tmp 122) (Go.Operand.tmp 123), type := 0, pos := "law.go:142", after := #[{ on := 7, ground := Go.Ground.data }, { on := 8, ground := Go.Ground.data }], guard := none }) (v := ?v11) rfl (by kernel_rfl) (by kernel_rfl) (by kernel_rfl) (fun _ _ _ h => h) (Or.inl ⟨by rfl, ?hy11⟩) (by assumption) ?_
                      case hy11 => (intro W hSw; (try dsimp only at hSw); go_simp; try with_reducible rfl)
                      try simp only [Act.put, List.setIfInBounds_toArray, List.set_cons_zero, List.set_cons_succ]
                      refine wpAnyH_take (i := 10) (oi := { dst := some 125, op := Go.Op.load 3 (Go.Operand.tmp 124), type := 3, pos := "law.go:142", after := #[{ on := 9, ground := Go.Ground.data }], guard := none }) (v := ?v12) rfl (by kernel_rfl) (by kernel_rfl) (by kernel_rfl) (fun _ _ _ h => h) (Or.inl ⟨by rfl, ?hy12⟩) (by assumption) ?_
                      case hy12 => (intro W hSw; (try dsimp only at hSw); go_simp; try with_reducible rfl)
                      try simp only [Act.put, List.setIfInBounds_toArray, List.set_cons_zero, List.set_cons_succ]
                      refine wpAnyH_ready (rs := [11]) (by kernel_rfl) (by simp) ?_
                      refine AllReadyH.cons (o := { dst := some 126, op := Go.Op.call { callee := Go.Callee.value (Go.Operand.func 20), args := #[Go.Operand.tmp 118, Go.Operand.tmp 125], argTypes := #[34, 3] }, type := 4, pos := "law.go:142", after := #[{ on := 3, ground := Go.Ground.data }, { on := 10, ground := Go.Ground.data }], guard := none }) rfl (fun K hK => ?_) AllReadyH.nil
                      go_simp
                      go_at_call 20
                      refine hh.mono ?_
                      rintro e w6 ⟨rfl, rfl⟩
                      go_wp2_with fail
                      refine hK.out _ _ (HC5.out _ rfl) (fun hHeld13 => ?_)
                      clear hK K
                      try simp only [Act.put, List.setIfInBounds_toArray, List.set_cons_zero, List.set_cons_succ]
                      refine wpAnyH_take (i := 12) (oi := { dst := some 127, op := Go.Op.unOp Go.UnOp.not 4 (Go.Operand.tmp 126), type := 4, pos := "law.go:142", after := #[{ on := 11, ground := Go.Ground.data }], guard := none }) (v := ?v14) rfl (by kernel_rfl) (by kernel_rfl) (by kernel_rfl) (fun _ _ _ h => h) (Or.inl ⟨by rfl, ?hy14⟩) (by assumption) ?_
                      case hy14 => (intro W hSw; (try dsimp only at hSw); go_simp; try with_reducible rfl)
                      try simp only [Act.put, List.setIfInBounds_toArray, List.set_cons_zero, List.set_cons_succ]
                      refine wpAnyH_done (by kernel_rfl) ?_ _
                      go_wp2
                      go_roundw
                      case rel => exact ⟨p + 1, by omega, by go_num, below_drewN HX.out 1⟩
                      case measure => simp [intOf]; omega
                    · obtain rfl : p = mi := by omega
                      clear I1 I2 I3 I4
                      go_wp2
                      go_loopw [20] (fun i wr => ∃ p : Nat, p ≤ mo ∧ i = .int .i64 p ∧ Hid (Below W.heap.size W wr)) (fun i _ => mo - (intOf i).toNat)
                      case atStart => exact ⟨0, Nat.zero_le _, rfl, HX.out⟩
                      case round =>
                        obtain ⟨p, hp, rfl, HY⟩ := hrel
                        obtain ⟨Y, rfl⟩ : ∃ Y, Y = wr := ⟨wr, rfl⟩
                        obtain ⟨⟨x1, x2, x3, x4⟩, ⟨s1, s2, s3, s4⟩, I1, I2, I3, I4⟩ := HC2.out Y HY.out
                        by_cases hpl : p < mo
                        · obtain ⟨x, hx⟩ : ∃ x, (zs (outL bs K i))[p]? = some x := ⟨(zs (outL bs K i))[p]'(by rw [HLL.out.2]; exact hpl), by simp⟩
                          have hmr := more_out HS.out HB.out HBM.out.2 (List.mem_of_getElem? hx)
                          obtain ⟨gx, ox, rfl, lx, kx⟩ := I3.cell hx
                          have hh := has13_any (w := Y.drewN 1) x (I4.below (below_drewN (Below.refl _ _) 1))
                          rw [hmr] at hh
                          have bp : (p : Int) < (mo : Int) := by omega
                          have HC5 : Hid (∀ Z : World, Z.heap = Y.heap → Z.cell? ⟨g4, o4 + i, none⟩ = some (.slice ab mb cb) ∧ Z.cell? ⟨go, oo + i, none⟩ = some (.slice (some ⟨gx, ox, none⟩) mo co) ∧ Z.cell? ⟨gx, ox + p, none⟩ = some (.int .i64 x)) := hide (fun Z hZ => by
                            have hz : ∀ (g o : Nat), Z.cell? ⟨g, o, none⟩ = Y.cell? ⟨g, o, none⟩ := fun g o => World.cell?_of_block (a := ⟨g, o, none⟩) (by rw [hZ])
                            rw [hz, hz, hz]
                            exact ⟨x4, x3, kx⟩)
                          clear I1 I2 I3 I4 hx hmr
                          go_wp2_with fail
                          refine wp_region_held_drew (S := (fun Z : World => Z.cell? ⟨g4, o4 + i, none⟩ = some (.slice ab mb cb) ∧ Z.cell? ⟨go, oo + i, none⟩ = some (.slice (some ⟨gx, ox, none⟩) mo co) ∧ Z.cell? ⟨gx, ox + p, none⟩ = some (.int .i64 x))) (by kernel_rfl) (HC5.out _ rfl) (fun hHeld15 => ?_)
                          refine wpAnyH_take (i := 0) (oi := { dst := some 137, op := Go.Op.move (Go.Operand.tmp 16), type := 23, pos := "law.go:147", after := #[], guard := none }) (v := ?v16) rfl (by kernel_rfl) (by kernel_rfl) (by kernel_rfl) (fun _ _ _ h => h) (Or.inl ⟨by rfl, ?hy16⟩) (by assumption) ?_
                          case hy16 => (intro W hSw; (try dsimp only at hSw); go_simp; try with_reducible rfl)
                          try simp only [Act.put, List.setIfInBounds_toArray, List.set_cons_zero, List.set_cons_succ]
                          refine wpAnyH_take (i := 1) (oi := { dst := some 138, op := Go.Op.move (Go.Operand.tmp 18), type := 3, pos := "law.go:147", after := #[], guard := none }) (v := ?v17) rfl (by kernel_rfl) (by kernel_rfl) (by kernel_rfl) (fun _ _ _ h => h) (Or.inl ⟨by rfl, ?hy17⟩) (by assumption) ?_
                          case hy17 => (intro W hSw; (try dsimp only at hSw); go_simp; try with_reducible rfl)
                          try simp only [Act.put, List.setIfInBounds_toArray, List.set_cons_zero, List.set_cons_succ]
                          refine wpAnyH_take (i := 2) (oi := { dst := some 139, op := Go.Op.indexAddr 23 (Go.Operand.tmp 137) (Go.Operand.tmp 138), type := 0, pos := "law.go:147", after := #[{ on := 0, ground := Go.Ground.data }, { on := 1, ground := Go.Ground.data }], guard := none }) (v := ?v18) rfl (by kernel_rfl) (by kernel_rfl) (by kernel_rfl) (fun _ _ _ h => h) (Or.inl ⟨by rfl, ?hy18⟩) (by assumption) ?_
                          case hy18 => (intro W hSw; (try dsimp only at hSw); go_simp; try with_reducible rfl)
                          try simp only [Act.put, List.setIfInBounds_toArray, List.set_cons_zero, List.set_cons_succ]
                          refine wpAnyH_take (i := 3) (oi := { dst := some 140, op := Go.Op.load 34 (Go.Operand.tmp 139), type := 34, pos := "law.go:147", after := #[{ on := 2, ground := Go.Ground.data }], guard := none }) (v := ?v19) rfl (by kernel_rfl) (by kernel_rfl) (by kernel_rfl) (fun _ _ _ h => h) (Or.inl ⟨by rfl, ?hy19⟩) (by assumption) ?_
                          case hy19 => (intro W hSw; (try dsimp only at hSw); go_simp; try with_reducible rfl)
                          try simp only [Act.put, List.setIfInBounds_toArray, List.set_cons_zero, List.set_cons_succ]
                          refine wpAnyH_take (i := 4) (oi := { dst := some 141, op := Go.Op.move (Go.Operand.tmp 10), type := 23, pos := "law.go:147", after := #[], guard := none }) (v := ?v20) rfl (by kernel_rfl) (by kernel_rfl) (by kernel_rfl) (fun _ _ _ h => h) (Or.inl ⟨by rfl, ?hy20⟩) (by assumption) ?_
                          case hy20 => (intro W hSw; (try dsimp only at hSw); go_simp; try with_reducible rfl)
                          try simp only [Act.put, List.setIfInBounds_toArray, List.set_cons_zero, List.set_cons_succ]
                          refine wpAnyH_take (i := 5) (oi := { dst := some 142, op := Go.Op.move (Go.Operand.tmp 18), type := 3, pos := "law.go:147", after := #[], guard := none }) (v := ?v21) rfl (by kernel_rfl) (by kernel_rfl) (by kernel_rfl) (fun _ _ _ h => h) (Or.inl ⟨by rfl, ?hy21⟩) (by assumption) ?_
                          case hy21 => (intro W hSw; (try dsimp only at hSw); go_simp; try with_reducible rfl)
                          try simp only [Act.put, List.setIfInBounds_toArray, List.set_cons_zero, List.set_cons_succ]
                          refine wpAnyH_take (i := 6) (oi := { dst := some 143, op := Go.Op.indexAddr 23 (Go.Operand.tmp 141) (Go.Operand.tmp 142), type := 0, pos := "law.go:147", after := #[{ on := 4, ground := Go.Ground.data }, { on := 5, ground := Go.Ground.data }], guard := none }) (v := ?v22) rfl (by kernel_rfl) (by kernel_rfl) (by kernel_rfl) (fun _ _ _ h => h) (Or.inl ⟨by rfl, ?hy22⟩) (by assumption) ?_
                          case hy22 => (intro W hSw; (try dsimp only at hSw); go_simp; try with_reducible rfl)
                          try simp only [Act.put, List.setIfInBounds_toArray, List.set_cons_zero, List.set_cons_succ]
                          refine wpAnyH_take (i := 7) (oi := { dst := some 144, op := Go.Op.load 34 (Go.Operand.tmp 143), type := 34, pos := "law.go:147", after := #[{ on := 6, ground := Go.Ground.data }], guard := none }) (v := ?v23) rfl (by kernel_rfl) (by kernel_rfl) (by kernel_rfl) (fun _ _ _ h => h) (Or.inl ⟨by rfl, ?hy23⟩) (by assumption) ?_
                          case hy23 => (intro W hSw; (try dsimp only at hSw); go_simp; try with_reducible rfl)
                          try simp only [Act.put, List.setIfInBounds_toArray, List.set_cons_zero, List.set_cons_succ]
                          refine wpAnyH_take (i := 8) (oi := { dst := some 145, op := Go.Op.move (Go.Operand.tmp 20), type := 3, pos := "law.go:147", after := #[], guard := none }) (v := ?v24) rfl (by kernel_rfl) (by kernel_rfl) (by kernel_rfl) (fun _ _ _ h => h) (Or.inl ⟨by rfl, ?hy24⟩) (by assumption) ?_
                          case hy24 => (intro W hSw; (try dsimp only at hSw); go_simp; try with_reducible rfl)
                          try simp only [Act.put, List.setIfInBounds_toArray, List.set_cons_zero, List.set_cons_succ]
                          refine wpAnyH_take (i := 9) (oi := { dst := some 146, op := Go.Op.indexAddr 34 (Go.Operand.tmp 144) (Go.Operand.tmp 145), type := 0, pos := "law.go:147", after := #[{ on := 7, ground := Go.Ground.data }, { on := 8, ground := Go.Ground.data }], guard := none }) (v := ?v25) rfl (by kernel_rfl) (by kernel_rfl) (by kernel_rfl) (fun _ _ _ h => h) (Or.inl ⟨by rfl, ?hy25⟩) (by assumption) ?_
                          case hy25 => (intro W hSw; (try dsimp only at hSw); go_simp; try with_reducible rfl)
                          try simp only [Act.put, List.setIfInBounds_toArray, List.set_cons_zero, List.set_cons_succ]
                          refine wpAnyH_take (i := 10) (oi := { dst := some 147, op := Go.Op.load 3 (Go.Operand.tmp 146), type := 3, pos := "law.go:147", after := #[{ on := 9, ground := Go.Ground.data }], guard := none }) (v := ?v26) rfl (by kernel_rfl) (by kernel_rfl) (by kernel_rfl) (fun _ _ _ h => h) (Or.inl ⟨by rfl, ?hy26⟩) (by assumption) ?_
                          case hy26 => (intro W hSw; (try dsimp only at hSw); go_simp; try with_reducible rfl)
                          try simp only [Act.put, List.setIfInBounds_toArray, List.set_cons_zero, List.set_cons_succ]
                          refine wpAnyH_ready (rs := [11]) (by kernel_rfl) (by simp) ?_
                          refine AllReadyH.cons (o := { dst := some 148, op := Go.Op.call { callee := Go.Callee.value (Go.Operand.func 20), args := #[Go.Operand.tmp 140, Go.Operand.tmp 147], argTypes := #[34, 3] }, type := 4, pos := "law.go:147", after := #[{ on := 3, ground := Go.Ground.data }, { on := 10, ground := Go.Ground.data }], guard := none }) rfl (fun K hK => ?_) AllReadyH.nil
                          go_simp
                          go_at_call 20
                          refine hh.mono ?_
                          rintro e w6 ⟨rfl, rfl⟩
                          go_wp2_with fail
                          refine hK.out _ _ (HC5.out _ rfl) (fun hHeld27 => ?_)
                          clear hK K
                          try simp only [Act.put, List.setIfInBounds_toArray, List.set_cons_zero, List.set_cons_succ]
                          refine wpAnyH_take (i := 12) (oi := { dst := some 149, op := Go.Op.unOp Go.UnOp.not 4 (Go.Operand.tmp 148), type := 4, pos := "law.go:147", after := #[{ on := 11, ground := Go.Ground.data }], guard := none }) (v := ?v28) rfl (by kernel_rfl) (by kernel_rfl) (by kernel_rfl) (fun _ _ _ h => h) (Or.inl ⟨by rfl, ?hy28⟩) (by assumption) ?_
                          case hy28 => (intro W hSw; (try dsimp only at hSw); go_simp; try with_reducible rfl)
                          try simp only [Act.put, List.setIfInBounds_toArray, List.set_cons_zero, List.set_cons_succ]
                          refine wpAnyH_done (by kernel_rfl) ?_ _
                          go_wp2
                          go_roundw
                          case rel => exact ⟨p + 1, by omega, by go_num, below_drewN HY.out 1⟩
                          case measure => simp [intOf]; omega
                        · obtain rfl : p = mo := by omega
                          clear I1 I2 I3 I4
                          go_wp2
                          go_roundw
                          case rel => exact ⟨i + 1, by omega, by go_num, HY.out⟩
                          case measure => simp [intOf]; omega
                · obtain rfl : i = n := by omega
                  have HF := hide (M5.out.2.2.2.2.trans (HW1.out.mono M5.out.2.2.2.2.size))
                  go_wp2
                  go_ret
                  exact ⟨rfl, HF.out⟩
  · have hne0 : (fltP bs k != 0) = true := by simpa using h0
    generalize hq : fltP bs k = q at *
    obtain ⟨ao, cap, rfl, _⟩ := R
    go_enter Try.func8, Try.ntmps8
    go_wp2_with (first
      | (have kk := hb2; clear kk; go_at_call 11; refine (ha _).mono ?_; rintro e w3 ⟨rfl, hb3⟩)
      | (have kk := hb1; clear kk; go_at_call 11; refine (ha _).mono ?_; rintro e w2 ⟨rfl, hb2⟩)
      | (go_at_call 9; with_reducible refine hs.mono ?_; rintro e w1 ⟨⟨v1, v2, rfl, hO⟩, hb1⟩; clear hO))
    go_ret
    exact ⟨rfl, hb1.trans ((hb2.trans (hb3.mono hb2.size)).mono hb1.size)⟩
end
end Go.Proofs.Ytaejhppfcmeopaa
