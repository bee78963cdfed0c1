/- LiveDoms: the blocks that Doms tells lie on every way. -/
import Derived.Test.YtaejhppfcmeopaaLxM
import Derived.Test.YtaejhppfcmeopaaLwQ
import Derived.Test.YtaejhppfcmeopaaLvV
import Derived.Test.YtaejhppfcmeopaaLvY
namespace Go.Proofs.Ytaejhppfcmeopaa
open Go.RowKit
/-- A way that was walked: what does not stand on it can be left out. -/
structure Be (E : Nat → List Nat) (L : List Nat) (x : Nat) : Prop where
  c : Cm E x
  a : ∀ d, d ∉ L → Av E d x
theorem Be.start (E : Nat → List Nat) : Be E [0] 0 := ⟨.here, fun d h => .here (fun e => h (by simp [e.symm]))⟩
theorem Be.step {E : Nat → List Nat} {L : List Nat} {x y : Nat} (B : Be E L x) (h : y ∈ E x) : Be E (L ++ [y]) y := ⟨.on B.c h, fun d hd => .on (B.a d (fun h1 => hd (by simp [h1]))) h (fun e => hd (by simp [e]))⟩
/-- One through which every way to x goes. -/
structure Ch (E : Nat → List Nat) (x b : Nat) : Prop where
  c : Cm E b
  u : ∀ d, ¬ Av E d b → ¬ Av E d x
theorem Ch.start {E : Nat → List Nat} {x : Nat} (h : Cm E x) : Ch E x x := ⟨h, fun _ h => h⟩
theorem Ch.step {E : Nat → List Nat} {x b r : Nat} (C : Ch E x b) (h : Sd E b r) : Ch E x r := ⟨h.cm, fun d hd => C.u d (fun h2 => by
  rcases av_trans r h2 with h3 | h3
  · exact h.2.2 h3
  · exact hd h3)⟩
theorem Ch.on {E : Nat → List Nat} {L : List Nat} {x b r : Nat} (C : Ch E x b) (h : Sd E b r) (B : Be E L x) : r ∈ L := by
  apply Classical.byContradiction
  intro hn
  exact C.u r h.2.2 (B.a r hn)
section
variable {bs : List Blk} {K : Nat}
theorem dmP_get {b : Nat} (h : b < bs.length) : (dmP bs)[b]? = some (dmV (ordP bs) (arP (suc bs)) b) := by simp [dmP, h]
theorem dmP_has (S : Snd bs K) (h0 : bs ≠ []) {b : Nat} (hb : Cm (goN bs) b) (hz : b ≠ 0) : ∃ r : Nat, (dmP bs)[b]? = some (r : Int) ∧ Sd (goN bs) b r ∧ r < bs.length := by
  obtain ⟨r, h1, h2⟩ := dmV_has (go_rpo S h0) (sn_ok S) hb hz
  exact ⟨r, by rw [dmP_get (cm_lt S h0 hb), h1], h2, cm_lt S h0 h2.cm⟩
theorem dmP_zero (S : Snd bs K) (h0 : bs ≠ []) : (dmP bs)[0]? = some (-1) := by
  rw [dmP_get (List.length_pos_iff.mpr h0), dmV_zero (go_rpo S h0) (sn_ok S)]
theorem goN_mem {x : Nat} {b : Blk} {y : Nat} (h : bs[x]? = some b) (hy : (y : Int) ∈ b.n) : y ∈ goN bs x := by
  rw [goN_of h, List.mem_map]
  exact ⟨_, hy, by simp⟩
theorem hasI_zs {L : List Nat} {x : Nat} (h : x ∈ L) : hasI (zs L) (x : Int) = true := by
  rw [hasI_iff]; exact List.mem_map.mpr ⟨x, h, rfl⟩
end
section
variable {w : World}
theorem Ow.new1 (w : World) (x : Int) : Ow w (w.alloc (.cells #[.int .i64 x] 3)) (.slice (some ⟨w.heap.size, 0, none⟩) 1 1) [x] :=
  ⟨⟨rfl, .inr ⟨w.heap.size, 1, #[.int .i64 x], rfl, Nat.le_refl _, heap_new _ _ rfl, Nat.le_refl _, by decide, rfl, rfl⟩⟩, (Below.refl _ _).alloc (Nat.le_refl _) _⟩
theorem Ow.under2 {w0 w w' : World} {vo : Value} {l : List Int} (V : Ow w0 w vo l) (h : Below w.heap.size w w') : Ow w0 w' vo l := ⟨ownsRow_keep V.r (fun g hg => h.block g (V.r.lt g hg).2), V.b.trans (h.mono V.b.size)⟩
theorem TurnsAt.cell2 {ao : Option Addr} {n c : Nat} {l : List Nat} (R : TurnsAt w (.slice ao n c) l) {j u : Nat} (h : l[j]? = some u) : u < 256 ∧ ∃ b o, ao = some ⟨b, o, none⟩ ∧ b < w.heap.size ∧ w.cell? ⟨b, o + j, none⟩ = some (.int .u8 u) := by
  obtain ⟨a, c2, e, _, h2⟩ := R
  cases e
  exact h2 j u h
set_option maxRecDepth 20000 in
set_option maxHeartbeats 8000000 in
theorem doms_law {vt v : Value} {bs : List Blk} {ts : List Nat} (R : BlksAt w v bs) (RT : TurnsAt w vt ts) : Calls Try.prog 7 #[v, vt] w fun e w' => e = .returned (.bool true) ∧ Below w.heap.size w w' := by
  have hd := domsp_any R
  have HA := hide (fun W : World => awake_any W)
  have HR := hide R
  have HRT := hide RT
  obtain ⟨ao, cap, rfl, _⟩ := R
  obtain ⟨at0, ct, rfl, htl, _⟩ := RT
  obtain ⟨tn, htn⟩ : ∃ tn, ts.length = tn := ⟨_, rfl⟩
  have HTN := hide htn
  rw [htn] at HRT htl ⊢
  have htl2 : (tn : Int) ≤ 9223372036854775807 := by omega
  clear htn
  by_cases h0 : fltP bs 4096 = 0
  · obtain ⟨K, hK, S⟩ := snd_of h0
    have HS := hide S
    have hl := S.l
    have HQ : Hid (dmQ bs = dmP bs) := hide (if_pos h0)
    rw [h0] at hd
    obtain ⟨n, hn⟩ : ∃ n, bs.length = n := ⟨_, rfl⟩
    have HN := hide hn
    rw [hn] at HR hl hd ⊢
    have hn2 : (n : Int) ≤ 512 := by omega
    clear S hn h0 hK
    by_cases hn0 : n = 0
    · subst hn0
      go_enter Try.func7, Try.ntmps7
      go_wp2_with (first
        | (have kk := hb2; clear kk; go_at_call 11; refine (HA.out _).mono ?_; rintro e w3 ⟨rfl, hb3⟩)
        | (go_at_call 11; refine (HA.out _).mono ?_; rintro e w2 ⟨rfl, hb2⟩)
        | (go_at_call 16; (with_reducible refine hd.mono ?_); rintro e w1 ⟨⟨v1, rfl, HI⟩, hb1⟩
           obtain ⟨a1, c1, e1⟩ := HI.out.slice
           rw [HQ.out, dmP_len, HN.out] at e1
           subst e1
           have H1 := hide hb1
           clear hb1 hd))
      go_ret
      exact ⟨rfl, H1.out.trans ((hb2.trans (hb3.mono hb2.size)).mono H1.out.size)⟩
    · have hnz : ((n : Int) == 0) = false := by simp; omega
      have hnn : ((n : Int) == (n : Int)) = true := by simp
      have HNE : Hid (bs ≠ []) := hide (fun e => hn0 (by rw [← HN.out, e]; rfl))
      go_enter Try.func7, Try.ntmps7
      go_wp2_with (first
        | (go_at_call 11; refine (HA.out _).mono ?_; rintro e w2 ⟨rfl, hb2⟩
           have H2 := hide (H1.out.trans (hb2.mono H1.out.size))
           have HI2 : Hid (IntsAt w2 (.slice a1 n c1) (dmP bs)) := hide (by have := HI.out.below hb2; rw [HQ.out] at this; exact this)
           clear hb2)
        | (go_at_call 16; (with_reducible refine hd.mono ?_); rintro e w1 ⟨⟨v1, rfl, HI⟩, hb1⟩
           obtain ⟨a1, c1, e1⟩ := HI.out.slice
           rw [HQ.out, dmP_len, HN.out] at e1
           subst e1
           have H1 := hide hb1
           clear hb1 hd))
      go_loopw [7, 8, 9] (fun a vb i wr => ∃ (i' a' g c : Nat), i' ≤ 40 ∧ i = .int .i64 i' ∧ a = .int .i64 a' ∧ a' < n ∧ vb = .slice (some ⟨g, 0, none⟩) (i' + 1) c ∧ Hid (∃ L : List Nat, L.length = i' + 1 ∧ Be (goN bs) L a' ∧ Ow w2 wr (.slice (some ⟨g, 0, none⟩) (i' + 1) c) (zs L))) (fun _ _ i _ => 41 - (intOf i).toNat)
      case atStart => exact ⟨0, 0, _, _, by omega, rfl, rfl, by omega, rfl, [0], rfl, Be.start _, Ow.new1 w2 0⟩
      case round =>
        obtain ⟨i, a, g, c, hi40, rfl, rfl, han, rfl, HL⟩ := hrel
        obtain ⟨L, hLl, hBe, hOw⟩ := HL.out
        obtain ⟨b, hb⟩ : ∃ b, bs[a]? = some b := ⟨bs[a]'(by rw [HN.out]; exact han), by simp⟩
        have HBW := hide (H2.out.trans (hOw.b.mono H2.out.size))
        have ha2 : (a : Int) < (n : Int) := by omega
        by_cases hin : i < tn
        · have hin2 : (i : Int) < (tn : Int) := by omega
          by_cases hi : i < 40
          · have hi2 : (i : Int) < 40 := by omega
            obtain ⟨gb, ob, au, cu, ad, cd, an, cn, rfl, hgb, e0, e1, e2, IU, ID, IN⟩ := (HR.out.below HBW.out).get hb
            have hnl := IN.len
            have HIN := hide IN
            clear e0 e1 IU ID IN
            by_cases hmn : b.n.length = 0
            · rw [hmn] at e2
              obtain ⟨gd, od, rfl, hgd, cd0⟩ := (HI2.out.below hOw.b).cell (dmP_zero HS.out HNE.out)
              have hn1 : (0 : Int) < (n : Int) := by omega
              rw [Nat.add_zero] at cd0
              clear hOw hBe hLl HL
              go_wp2
              go_ret
              exact ⟨rfl, HBW.out⟩
            · obtain ⟨t, ht⟩ : ∃ t, ts[i]? = some t := ⟨ts[i]'(by rw [HTN.out]; exact hin), by simp⟩
              obtain ⟨ht256, gt, ot, rfl, lt, kt⟩ := (HRT.out.below HBW.out).cell2 ht
              obtain ⟨mn, hmn2⟩ : ∃ mn, b.n.length = mn := ⟨_, rfl⟩
              have HMN := hide hmn2
              rw [hmn2] at e2 hnl hmn
              have hmod : t % mn < mn := Nat.mod_lt _ (by omega)
              obtain ⟨y0, hy0⟩ : ∃ y, b.n[t % mn]? = some y := ⟨b.n[t % mn]'(by rw [HMN.out]; exact hmod), by simp⟩
              obtain ⟨y, rfl, hyn⟩ := HS.out.n a b hb y0 (List.mem_of_getElem? hy0)
              have hIN := HIN.out
              rw [hmn2] at hIN
              obtain ⟨gn, on, rfl, ln, kn⟩ := hIN.cell hy0
              have hyn2 : y < n := by rw [HN.out] at hyn; exact hyn
              have em : (t : Int) % (mn : Int) = ((t % mn : Nat) : Int) := (Int.natCast_emod t mn).symm
              have em2 : (t : Int).tmod (mn : Int) = ((t % mn : Nat) : Int) := by rw [Int.tmod_eq_emod_of_nonneg (by omega), em]
              have em4 : IntKind.i64.wrap (t : Int) = (t : Int) := wrap_id (by omega) (by omega)
              have hz0 : (mn : Int) ≠ 0 := by omega
              have hz1 : (0 : Int) < (mn : Int) := by omega
              have ht2 : (t : Int) < 256 := by omega
              have hBe2 := hBe.step (goN_mem hb (List.mem_of_getElem? hy0))
              have HB2 := hide (And.intro hBe2 (And.intro hLl hOw))
              generalize t % mn = z at *
              have em3 : IntKind.i64.wrap (z : Int) = (z : Int) := by rw [IntKind.wrap_i64]; omega
              have hz2 : (z : Int) < (mn : Int) := by omega
              have HI40 := hide hi
              clear hBe2 hBe hLl hOw HL hIN hmn2 hb hy0 hyn ht hmod HIN
              go_upto_region 9 with fail
              go_quiet (fail)
              obtain ⟨W2, hW2⟩ : ∃ W2, wr.drewN nq = W2 := ⟨_, rfl⟩
              have hbW : Below wr.heap.size wr W2 := by rw [← hW2]; exact below_drewN (Below.refl _ _) _
              rw [hW2]
              obtain ⟨g3, c3, W3, hr, V3⟩ := (HB2.out.2.2.under2 hbW).push (y : Int) (by rw [zs_len, HB2.out.2.1]; omega)
              have hzl : (zs L).length = i + 1 := by rw [zs_len]; exact HB2.out.2.1
              rw [hzl] at hr V3
              have hL3 : (L ++ [y]).length = i + 1 + 1 := by rw [List.length_append, HB2.out.2.1]; rfl
              have hz3 : zs L ++ [(y : Int)] = zs (L ++ [y]) := by simp [zs]
              rw [hz3] at V3
              have HV := hide (And.intro hL3 (And.intro HB2.out.1 V3))
              have HRUN := hide hr
              clear hbW V3 hr hzl hz3 hL3 hW2 e2 kt kn em em2 em3 em4 hz0 hz1 hz2 lt ln hgb hnl ht2 ht256 hin hin2 hi hi2
              go_wp2_with (refine wpList_append_eq (by rfl) _ _ 34 (by rfl) (by rfl) (by rfl) HRUN.out ?_)
              go_loopw [10, 11] (fun vb vk wi => ∃ b k : Nat, vb = .int .i64 b ∧ vk = .int .i64 k ∧ k ≤ n + 1 ∧ wi = W3 ∧ Hid (Ch (goN bs) y b)) (fun _ vk _ => n + 1 - (intOf vk).toNat)
              case atStart => exact ⟨y, 0, rfl, rfl, by omega, rfl, Ch.start HV.out.2.1.c⟩
              case round =>
                obtain ⟨b2, k, rfl, rfl, hk, rfl, HC⟩ := hrel
                by_cases hb0 : b2 = 0
                · subst hb0
                  go_wp2
                  go_roundw
                  case rel => exact ⟨i + 1, y, g3, c3, by have := HI40.out; omega, by go_num, rfl, hyn2, rfl, L ++ [y], HV.out.1, HV.out.2.1, HV.out.2.2⟩
                  case measure => simp [intOf]; omega
                · have hb1 : ((b2 : Int) == 0) = false := by simp; omega
                  by_cases hkn : k ≤ n
                  · have hkn2 : (k : Int) ≤ (n : Int) := by omega
                    obtain ⟨r, hr, hsd, hrn⟩ := dmP_has HS.out HNE.out HC.out.c hb0
                    obtain ⟨gd, od, rfl, hgd, cd0⟩ := (HI2.out.below HV.out.2.2.b).cell hr
                    have hbn := cm_lt HS.out HNE.out HC.out.c
                    rw [HN.out] at hbn
                    have hbn2 : (b2 : Int) < (n : Int) := by omega
                    have hh := has13_any (w := wr) (r : Int) (IntsAt.of_row HV.out.2.2.r (by rw [zs_len, HV.out.1]; omega))
                    rw [hasI_zs (HC.out.on hsd HV.out.2.1)] at hh
                    have hr0 : decide ((r : Int) < 0) = false := by simp
                    have HC2 := hide (HC.out.step hsd)
                    clear hsd hr HC
                    go_wp2_with (go_at_call 20; refine hh.mono ?_; rintro e w6 ⟨rfl, hw6⟩; rw [hw6]; clear hw6 w6)
                    go_roundw
                    case rel => exact ⟨r, k + 1, rfl, by go_num, by omega, trivial, HC2.out⟩
                    case measure => simp [intOf]; omega
                  · have hkn2 : (n : Int) < (k : Int) := by omega
                    clear hkn
                    go_wp2
                    go_roundw
                    case rel => exact ⟨i + 1, y, g3, c3, by have := HI40.out; omega, by go_num, rfl, hyn2, rfl, L ++ [y], HV.out.1, HV.out.2.1, HV.out.2.2⟩
                    case measure => simp [intOf]; omega
          · have hi2 : (40 : Int) ≤ (i : Int) := by omega
            clear hi
            obtain ⟨gd, od, rfl, hgd, cd0⟩ := (HI2.out.below hOw.b).cell (dmP_zero HS.out HNE.out)
            have hn1 : (0 : Int) < (n : Int) := by omega
            rw [Nat.add_zero] at cd0
            clear hOw hBe hLl HL
            go_wp2
            go_ret
            exact ⟨rfl, HBW.out⟩
        · have hin2 : (tn : Int) ≤ (i : Int) := by omega
          clear hin
          obtain ⟨gd, od, rfl, hgd, cd0⟩ := (HI2.out.below hOw.b).cell (dmP_zero HS.out HNE.out)
          have hn1 : (0 : Int) < (n : Int) := by omega
          rw [Nat.add_zero] at cd0
          clear hOw hBe hLl HL
          go_wp2
          go_ret
          exact ⟨rfl, HBW.out⟩
  · have hne0 : (fltP bs 4096 != 0) = true := by simpa using h0
    obtain ⟨q, hq⟩ : ∃ q, fltP bs 4096 = q := ⟨_, rfl⟩
    rw [hq] at hd h0 hne0
    have hq2 : decide (q = 0) = false := by simpa using h0
    have hq3 : (q == 0) = false := by simpa using h0
    generalize bs.length = n at *
    clear h0
    go_enter Try.func7, Try.ntmps7
    go_wp2_with (first
      | (have kk := hb2; clear kk; go_at_call 11; refine (HA.out _).mono ?_; rintro e w3 ⟨rfl, hb3⟩)
      | (go_at_call 11; refine (HA.out _).mono ?_; rintro e w2 ⟨rfl, hb2⟩)
      | (go_at_call 16; (with_reducible refine hd.mono ?_); rintro e w1 ⟨⟨v1, rfl, HI⟩, hb1⟩; clear hd))
    go_ret
    exact ⟨rfl, hb1.trans ((hb2.trans (hb3.mono hb2.size)).mono hb1.size)⟩
end
end Go.Proofs.Ytaejhppfcmeopaa
