/- The document's Move of a stack. -/
import Derived.Test.YtjapfckadikjiaaRsI
namespace Go.Proofs.Ytjapfckadikjiaa
open Go.RowKit
section
variable {B : Nat} {w w' : World} {vf : Value} {g : Nat → Value} {s : Sk}
def ROut3 (B : Nat) (w : World) (p : Int × Int) (s' : Sk) (e : Ending) (w' : World) : Prop := ∃ vf' g', e = .returned (.tuple #[.int .i64 p.1, .int .i64 p.2, rv s' vf']) ∧ Rc B w' vf' g' s'.fr ∧ Below w.heap.size w w'
set_option maxHeartbeats 4000000 in
theorem rmove_arg (w : World) (R : Rc B w vf g s.fr) {b : Int} (h : allowB b = false) : Calls Try.prog 21 #[rv s vf, .int .i64 b] w fun e w' => ROut3 B w (0, 1) s e w' := by
  obtain ⟨ao, cp, hvf, _⟩ := row_form R.row
  have HR := hide R
  have HV := hide hvf
  rw [hvf]
  have ha := rcheck_any b ((w.alloc (.cells #[.int .i64 s.base, .int .i64 s.most, .slice ao s.fr.length cp] 31)).alloc (.cells #[.int .i64 0, .int .i64 0, .slice none 0 0] 31))
  rw [h] at ha
  have HA := hide ha
  clear R hvf ha h
  go_enter Try.func21, Try.ntmps21
  go_wp2_with (go_at_call 8; refine HA.out.mono ?_; rintro e w1 ⟨rfl, rfl⟩)
  go_region
  all_goals go_wp2
  all_goals
    refine bodyPost_ret (v := .tuple #[.int .i64 0, .int .i64 1, rv s (.slice ao s.fr.length cp)]) ?_ rfl ?_
    · simp [results, Try.results21, go_sem]
    · unfold ROut3
      have h1 := HR.out
      rw [HV.out] at h1
      refine ⟨_, g, rfl, (((h1.alloc _).alloc _).keep fun _ _ => rfl), ?_⟩
      exact (((Below.refl _ _).alloc (Nat.le_refl _) _).alloc (by simp) _).drew
set_option maxHeartbeats 8000000 in
theorem rmove_ok (w : World) (R : Rc B w vf g s.fr) (I : SInv s) (hB : B ≤ w.heap.size) {b : Int} (h : allowB b = true) : Calls Try.prog 21 #[rv s vf, .int .i64 b] w fun e w' => ROut3 B w ((cntP s s.ws.length : Int), 0) (moveS s b) e w' := by
  obtain ⟨ao, cp, hvf, _⟩ := row_form R.row
  obtain ⟨W1, hW1⟩ : ∃ W1, (w.alloc (.cells #[.int .i64 s.base, .int .i64 s.most, .slice ao s.fr.length cp] 31)).alloc (.cells #[.int .i64 0, .int .i64 0, .slice none 0 0] 31) = W1 := ⟨_, rfl⟩
  have z1 : W1.heap.size = w.heap.size + 1 + 1 := by rw [← hW1]; simp
  have R1 : Rc B W1 vf g s.fr := by rw [← hW1]; exact (R.alloc _).alloc _
  have bx : W1.heap[w.heap.size]? = some (.cells #[.int .i64 s.base, .int .i64 s.most, .slice ao s.fr.length cp] 31 (0, 0)) := by rw [← hW1, Below.heap_alloc _ _ _ (by simp), heap_new _ _ rfl]
  have br : W1.heap[w.heap.size + 1]? = some (.cells #[.int .i64 0, .int .i64 0, .slice none 0 0] 31 (0, 0)) := by rw [← hW1, heap_new _ _ (by simp)]
  have BW := hide (show Below w.heap.size w W1 by rw [← hW1]; exact ((Below.refl _ _).alloc (Nat.le_refl _) _).alloc (by simp) _)
  have hck := rcheck_any b W1
  rw [h] at hck
  have hcop := rcopied_any (w := W1) R1 I
  have hfind : ∀ (w5 : World) (x : Int), Below w.heap.size w w5 → x ≤ 9223372036854775807 → Calls Try.prog 34 #[rv s (.slice ao s.fr.length cp), .int .i64 x] w5 fun e w' => FndE s x e ∧ Below w5.heap.size w5 w' := fun w5 x hb hx => by
    have := rfind_any (w := w5) x (R.keep (w' := w5) fun k hk => hb.block k (R.own_lt hk).2) I hx
    rw [hvf] at this; exact this
  rw [hvf] at hcop ⊢
  have hbb := of_decide_eq_true h
  have hfew := I.few
  have hm1 := I.m1
  have hfit := I.fit
  have IH := hide I
  have HAl := hide h
  have HW1 := hide hW1
  have HCK := hide hck
  have HCOP := hide hcop
  have HFIND := hide hfind
  have HR := hide R
  have HV := hide hvf
  obtain ⟨c0, c1, c2, _, _, _⟩ := box_facts bx
  have HBX := hide bx
  have HBR := hide br
  have bn : (s.fr.length : Int) ≤ 1000 := by omega
  clear hck hcop hfind hW1 R1 R I bx br hvf h
  generalize hnf : s.fr.length = n at *
  have HL := hide hnf
  clear hnf
  go_enter Try.func21, Try.ntmps21
  go_wp2_with fail
  rw [HW1.out]
  refine HCK.out.mono ?_
  rintro e w1 ⟨rfl, rfl⟩
  clear HCK HW1
  go_wp2_with fail
  refine HCOP.out.mono ?_
  rintro e w6 ⟨vf', g', rfl, Rn, hb6⟩
  have z6 := hb6.size
  rw [z1] at z6
  obtain ⟨av, pv, hvf', _⟩ := row_form Rn.row
  rw [HL.out] at hvf'
  subst hvf'
  have HST := hide (show Mo s w (w6.alloc (.cells #[.int .i64 b, .int .i64 s.most, .slice av n pv] 31)) b (.slice ao n cp) (.slice av n pv) g' w6.heap.size 0 from
    ⟨(Below.heap_alloc _ _ _ (by omega)).trans ((hb6.block _ (by omega)).trans HBX.out), (Below.heap_alloc _ _ _ (by omega)).trans ((hb6.block _ (by omega)).trans HBR.out), heap_new _ _ rfl, (Rn.alloc _).mono (by omega), fun k hk => by have := (Rn.own_lt hk).2; omega, by omega, (BW.out.trans (hb6.mono (by omega))).alloc (by omega) _⟩)
  clear Rn hb6 HCOP HBX HBR BW c0 c1 c2
  go_wp2
  go_loopw [8, 9] (fun vn vi wr => ∃ i : Nat, i ≤ n ∧ vi = .int .i64 i ∧ vn = .int .i64 (cntP s (pre s.fr i)) ∧ Hid (Mo s w wr b (.slice ao n cp) (.slice av n pv) g' w6.heap.size (pre s.fr i))) (fun _ vi _ => n - (intOf vi).toNat)
  case atStart => exact ⟨0, Nat.zero_le _, rfl, by rw [pre_zero]; simp [cntP], by rw [pre_zero]; exact HST⟩
  case round =>
    obtain ⟨i, hi, rfl, rfl, hM⟩ := hrel
    clear HST
    by_cases hlt : i < n
    · have di : decide (i < n) = true := by simpa using hlt
      have bi : (i : Int) < (n : Int) := by omega
      obtain ⟨f, hf⟩ : ∃ f, s.fr[i]? = some f := ⟨s.fr[i]'(by rw [HL.out]; exact hlt), by simp⟩
      obtain ⟨F, capF, hvF, cF, hFl⟩ := HR.out.frame (i := i) (by rw [HL.out]; exact hlt)
      obtain rfl : ao = some ⟨F, 0, none⟩ := by rw [HV.out, HL.out] at hvF; cases hvF; rfl
      obtain ⟨af, pf, hgf, _⟩ := row_form (HR.out.els i f hf)
      have HFi := hide hf
      have HGF := hide hgf
      have hpf := pre_get hf
      have bf : (f.length : Int) ≤ 65536 := by have : s.fr.flatten.length = s.ws.length := rfl; omega
      have cFi : ∀ w5 : World, Below w.heap.size w w5 → w5.cell? ⟨F, i, none⟩ = some (.slice af f.length pf) := fun w5 hb5 => by
        rw [hb5.cell (p := ⟨F, i, none⟩) hFl, cF, HGF.out]
      have CFI := hide cFi
      have HPS := hide (pre_succ hf)
      have HPF := hide hpf
      clear cF hvF hgf hf hpf cFi
      generalize hkf : f.length = kf at *
      have HKF := hide hkf
      clear hkf
      obtain ⟨y0, y1, y2, _⟩ := box_facts hM.out.bx
      go_wp2
      go_loopw [8, 10] (fun vn vk wr' => ∃ k : Nat, k ≤ kf ∧ vk = .int .i64 k ∧ vn = .int .i64 (cntP s (pre s.fr i + k)) ∧ Hid (Mo s w wr' b (.slice (some ⟨F, 0, none⟩) n cp) (.slice av n pv) g' w6.heap.size (pre s.fr i + k))) (fun _ vk _ => kf - (intOf vk).toNat)
      case atStart => exact ⟨0, Nat.zero_le _, rfl, rfl, hM⟩
      case round =>
        obtain ⟨k, hk, rfl, rfl, hMk⟩ := hrel
        clear y0 y1 y2 hM
        obtain ⟨y0, y1, y2, _⟩ := box_facts hMk.out.bx
        have yF := CFI.out _ hMk.out.bel
        by_cases hkl : k < kf
        · have dk : decide (k < kf) = true := by simpa using hkl
          have bk : (k : Int) < (kf : Int) := by omega
          obtain ⟨u, hu⟩ : ∃ u, f[k]? = some u := ⟨f[k]'(by rw [HKF.out]; exact hkl), by simp⟩
          have Rr : Rc B wr _ g s.fr := HR.out.keep (w' := wr) fun j hj => hMk.out.bel.block j (HR.out.own_lt hj).2
          obtain ⟨bb, cb, hgb, cu, cp', _, hbl⟩ := Rr.word HFi.out hu
          obtain rfl : af = some ⟨bb, 0, none⟩ := by rw [HGF.out, HKF.out] at hgb; cases hgb; rfl
          have hwu : s.ws[pre s.fr i + k]? = some u := by rw [ws_at HFi.out (by rw [HKF.out]; exact hkl)]; exact hu
          have hvx := IH.out.vals u (List.mem_of_getElem? hwu)
          have hcs := cntP_succ hwu
          have hcle := cntP_le s (pre s.fr i + k)
          have hml : pre s.fr i + k + 1 ≤ s.ws.length := by have : s.fr.flatten.length = s.ws.length := rfl; have := HPF.out; omega
          have hzr := lt_of_block hMk.out.bo
          have hho := hMk.out.ho
          have hw1 : w.heap.size < wr.heap.size := by omega
          have hFr : F < wr.heap.size := by omega
          have bcn : (cntP s (pre s.fr i + k) : Int) ≤ 65536 := by omega
          have HWU := hide hwu
          have HCS := hide hcs
          have M8 := hide (hMk.out.below (w5 := wr.alloc (.cells #[.int .i64 u.v, .bool u.p] 70)) ((Below.refl _ _).alloc (Nat.le_refl _) _))
          have hfd := hide (HFIND.out (wr.alloc (.cells #[.int .i64 u.v, .bool u.p] 70)) u.v M8.out.bel hvx)
          have HNB := hide (show (wr.alloc (.cells #[.int .i64 u.v, .bool u.p] 70)).heap[wr.heap.size]? = some (.cells #[.int .i64 u.v, .bool u.p] 70 (0, 0)) from heap_new _ _ rfl)
          generalize hcn : cntP s (pre s.fr i + k) = cn at *
          have HCN := hide hcn
          clear Rr hgb hu hwu hcs hvx hMk hcn
          obtain ⟨uv, up⟩ := u
          go_wp2_with fail
          refine hfd.out.mono ?_
          rintro e w9 ⟨ho, hb9⟩
          have M9 := hide (M8.out.below hb9)
          have z9 := hb9.size
          rw [World.size_alloc] at z9
          have nb9 := (hb9.block wr.heap.size (by simp)).trans HNB.out
          have x0 : w9.cell? ⟨wr.heap.size, 0, none⟩ = some (.int .i64 uv) := cell_of nb9
          have x1 : w9.cell? ⟨wr.heap.size, 1, none⟩ = some (.bool up) := cell_of nb9
          clear hfd hb9 nb9 HNB M8
          unfold FndE at ho
          rcases ho with ⟨ho, rfl⟩ | ⟨a0, j0, f0, ho, hf0, hj0, rfl⟩
          · have hip : isP s ⟨uv, up⟩ = false := by simp [isP, ho]
            have MN := hide (M9.out.skip HWU.out hip)
            have HC1 := hide (show cntP s (pre s.fr i + k + 1) = cn by rw [HCS.out, hip]; rfl)
            clear ho hip M9
            cases up with
            | false =>
              go_wp2
              go_roundw
              case rel => exact ⟨k + 1, by omega, by go_num, by rw [← Nat.add_assoc, HC1.out], by rw [← Nat.add_assoc]; exact MN⟩
              case measure => simp [intOf]; omega
            | true =>
              go_wp2
              go_roundw
              case rel => exact ⟨k + 1, by omega, by go_num, by rw [← Nat.add_assoc, HC1.out], by rw [← Nat.add_assoc]; exact MN⟩
              case measure => simp [intOf]; omega
          · have d5 : decide ((a0 : Int) < 0) = false := by simp
            have d6 : decide (0 ≤ (a0 : Int)) = true := by simp
            cases up with
            | false =>
              have hip : isP s ⟨uv, false⟩ = false := by simp [isP]
              have MN := hide (M9.out.skip HWU.out hip)
              have HC1 := hide (show cntP s (pre s.fr i + k + 1) = cn by rw [HCS.out, hip]; rfl)
              clear ho hip M9 hf0
              go_wp2
              go_roundw
              case rel => exact ⟨k + 1, by omega, by go_num, by rw [← Nat.add_assoc, HC1.out], by rw [← Nat.add_assoc]; exact MN⟩
              case measure => simp [intOf]; omega
            | true =>
              have hip : isP s ⟨uv, true⟩ = true := by simp [isP, ho]
              have hmv : (mv s b ⟨uv, true⟩).v = b + pre s.fr a0 + j0 := by simp [mv, ho]; omega
              have HC1 := hide (show cntP s (pre s.fr i + k + 1) = cn + 1 by rw [HCS.out, hip]; rfl)
              have hinv := outS_inv (b := b) (m := pre s.fr i + k) IH.out HAl.out (by omega)
              obtain ⟨f0', hf0', hfl0⟩ := outS_at (b := b) (m := pre s.fr i + k) hf0
              have had := raddr_any (w := w9.drew) (s := outS s b (pre s.fr i + k)) (a0 : Int) (j0 : Int) (M9.out.rc.keep fun _ _ => rfl) hinv
              rw [show addrP (outS s b (pre s.fr i + k)) (a0 : Int) (j0 : Int) = (b + pre s.fr a0 + j0, 0) by unfold addrP; rw [adr_mk hf0' (by omega)]; simp only [outS_pre]; rfl] at had
              obtain ⟨fi', hfi', hfil⟩ := outS_at (b := b) (m := pre s.fr i + k) HFi.out
              obtain ⟨F2, cap2, hvF2, cF2, hF2l⟩ := M9.out.rc.frame (get_lt hfi')
              have hu2 : fi'[k]? = some (fi'[k]'(by rw [hfil, HKF.out]; exact hkl)) := List.getElem?_eq_getElem _
              obtain ⟨bk2, cbk, hgk, cuk, -, ffz, hbk2⟩ := M9.out.rc.word hfi' hu2
              rw [hfil, HKF.out] at hgk
              obtain rfl : av = some ⟨F2, 0, none⟩ := by rw [outS_len, HL.out] at hvF2; cases hvF2; rfl
              rw [hgk] at cF2
              have hil : i < (outS s b (pre s.fr i + k)).fr.length := get_lt hfi'
              have hbF : bk2 ≠ F2 := fun e => M9.out.rc.ne hil (k := bk2) (by rw [hgk]; rfl) (by rw [e]; rfl)
              have hbo : bk2 ≠ w6.heap.size := M9.out.lo bk2 (.inr ⟨i, by rw [HL.out]; exact hlt, by rw [hgk]; rfl⟩)
              have hol := lt_of_block M9.out.bo
              obtain ⟨o0, o1, o2, _⟩ := box_facts M9.out.bo
              have ff2 := ffz (k * 2)
              generalize hux : (fi'[k]'(by rw [hfil, HKF.out]; exact hkl)).v = ux at *
              have DR := hide (show ∀ w5 : World, Below w9.drew.heap.size w9.drew w5 → Below w9.heap.size w9 w5 from fun w5 hb => ⟨hb.os, hb.tape, hb.output, hb.size, hb.block⟩)
              have facts : ∀ w5 : World, Below w9.heap.size w9 w5 → (w5.cell? ⟨w6.heap.size, 0, none⟩ = some (.int .i64 b) ∧ w5.cell? ⟨w6.heap.size, 1, none⟩ = some (.int .i64 s.most) ∧ w5.cell? ⟨w6.heap.size, 2, none⟩ = some (.slice (some ⟨F2, 0, none⟩) n pv) ∧ w5.cell? ⟨F2, i, none⟩ = some (.slice (some ⟨bk2, 0, none⟩) kf cbk)) ∧ w5.cell? ⟨bk2, k * 2, none⟩ = some (.int .i64 ux) ∧ w5.frozen? ⟨bk2, k * 2, none⟩ = false := fun w5 hb => by
                have e1 := hb.cell (p := ⟨w6.heap.size, 0, none⟩) hol
                have e2 := hb.cell (p := ⟨w6.heap.size, 1, none⟩) hol
                have e3 := hb.cell (p := ⟨w6.heap.size, 2, none⟩) hol
                have e4 := hb.cell (p := ⟨F2, i, none⟩) hF2l
                have e5 := hb.cell (p := ⟨bk2, k * 2, none⟩) hbk2
                have e6 := hb.frozen (p := ⟨bk2, k * 2, none⟩) hbk2
                exact ⟨⟨e1.trans o0, e2.trans o1, e3.trans o2, e4.trans cF2⟩, e5.trans cuk, e6.trans ff2⟩
              have far : ∀ (w5 : World) (v : Value), (w5.cell? ⟨w6.heap.size, 0, none⟩ = some (.int .i64 b) ∧ w5.cell? ⟨w6.heap.size, 1, none⟩ = some (.int .i64 s.most) ∧ w5.cell? ⟨w6.heap.size, 2, none⟩ = some (.slice (some ⟨F2, 0, none⟩) n pv) ∧ w5.cell? ⟨F2, i, none⟩ = some (.slice (some ⟨bk2, 0, none⟩) kf cbk)) →
                  ((w5.setCell ⟨bk2, k * 2, none⟩ v).cell? ⟨w6.heap.size, 0, none⟩ = some (.int .i64 b) ∧ (w5.setCell ⟨bk2, k * 2, none⟩ v).cell? ⟨w6.heap.size, 1, none⟩ = some (.int .i64 s.most) ∧ (w5.setCell ⟨bk2, k * 2, none⟩ v).cell? ⟨w6.heap.size, 2, none⟩ = some (.slice (some ⟨F2, 0, none⟩) n pv) ∧ (w5.setCell ⟨bk2, k * 2, none⟩ v).cell? ⟨F2, i, none⟩ = some (.slice (some ⟨bk2, 0, none⟩) kf cbk)) := fun w5 v ⟨q0, q1, q2, q3⟩ =>
                ⟨(World.cell?_of_block (w := w5) (Below.heap_setCell _ _ _ _ hbo.symm)).trans q0, (World.cell?_of_block (w := w5) (Below.heap_setCell _ _ _ _ hbo.symm)).trans q1, (World.cell?_of_block (w := w5) (Below.heap_setCell _ _ _ _ hbo.symm)).trans q2, (World.cell?_of_block (w := w5) (Below.heap_setCell _ _ _ _ hbF.symm)).trans q3⟩
              have FACTS := hide facts
              have FAR := hide far
              have fin : ∀ w5 : World, Below w9.heap.size w9 w5 → Mo s w (w5.setCell ⟨bk2, k * 2, none⟩ (.int .i64 (b + pre s.fr a0 + j0))) b (.slice (some ⟨F, 0, none⟩) n cp) (.slice (some ⟨F2, 0, none⟩) n pv) g' w6.heap.size (pre s.fr i + k + 1) := fun w5 hb => by
                have := (M9.out.below hb).put HFi.out (by rw [HKF.out]; exact hkl) HWU.out hip (by rw [HKF.out]; exact hgk)
                rw [hmv] at this; exact this
              have FIN := hide fin
              have HAD := hide had
              have hp0 := pre_get hf0
              have bq : (pre s.fr a0 : Int) ≤ 65536 := by have : s.fr.flatten.length = s.ws.length := rfl; omega
              have bj0 : (j0 : Int) ≤ 65536 := by have : s.fr.flatten.length = s.ws.length := rfl; omega
              clear facts far fin had hux cuk ffz hgk hvF2 hu2 hfi' hfil hf0' hfl0 hinv hip hmv ho hf0 M9 hil hp0
              go_wp2_with fail
              go_region_held3 (fun w' => w'.cell? ⟨w6.heap.size, 0, none⟩ = some (.int .i64 b) ∧ w'.cell? ⟨w6.heap.size, 1, none⟩ = some (.int .i64 s.most) ∧ w'.cell? ⟨w6.heap.size, 2, none⟩ = some (.slice (some ⟨F2, 0, none⟩) n pv) ∧ w'.cell? ⟨F2, i, none⟩ = some (.slice (some ⟨bk2, 0, none⟩) kf cbk)) (first | go_keep | exact FAR.out _ _ k10 | exact k10 | exact ⟨o0, o1, o2, cF2⟩) ((go_at_call 15; refine HAD.out.mono ?_; rintro e w10 ⟨rfl, hb10⟩; obtain ⟨k10, k11, k12⟩ := FACTS.out _ (DR.out _ hb10)))
              have MN := hide (FIN.out w10 (DR.out _ hb10))
              clear FIN FACTS FAR DR HAD hb10 k10 k11 k12 o0 o1 o2 cF2 ff2
              generalize w10.setCell ⟨bk2, k * 2, none⟩ (.int .i64 (b + pre s.fr a0 + j0)) = w11 at *
              go_wp2
              go_roundw
              case rel => exact ⟨k + 1, by omega, by go_num, by rw [← Nat.add_assoc, HC1.out]; go_num, by rw [← Nat.add_assoc]; exact MN⟩
              case measure => simp [intOf]; omega
        · obtain rfl : k = kf := by omega
          have dk : decide (k < k) = false := by simp
          rw [← HPS.out] at hMk ⊢
          go_wp2
          go_roundw
          case rel => exact ⟨i + 1, by omega, by go_num, rfl, hMk⟩
          case measure => simp [intOf]; omega
    · obtain rfl : i = n := by omega
      have di : decide (i < i) = false := by simp
      have hpi : pre s.fr i = s.ws.length := pre_len (by rw [HL.out]; exact Nat.le_refl _)
      rw [hpi] at hM ⊢
      obtain ⟨o0, o1, o2, _⟩ := box_facts hM.out.bo
      obtain ⟨r0, r1, r2, f0, f1, f2⟩ := box_facts hM.out.br
      obtain ⟨y0, y1, y2, _⟩ := box_facts hM.out.bx
      have hne : ¬ w.heap.size + 1 = w6.heap.size := by have := hM.out.ho; omega
      have hne2 : ¬ w6.heap.size = w.heap.size + 1 := by have := hM.out.ho; omega
      clear hpi
      go_wp2
      go_region
      all_goals go_wp2
      all_goals
        refine bodyPost_ret (v := .tuple #[.int .i64 (cntP s s.ws.length), .int .i64 0, rv (moveS s b) (.slice av i pv)]) ?_ rfl ?_
        · simp [results, Try.results21, go_sem, r0, r1, r2]; exact ⟨rfl, rfl⟩
        · have h4 := hM.out.rc
          rw [show (outS s b s.ws.length).fr = (moveS s b).fr from outFr_all b] at h4
          have hfin : Rc B (((wr.setCell ⟨w.heap.size + 1, 0, none⟩ (.int .i64 b)).setCell ⟨w.heap.size + 1, 1, none⟩ (.int .i64 s.most)).setCell ⟨w.heap.size + 1, 2, none⟩ (.slice av i pv)).drew (.slice av i pv) g' (moveS s b).fr :=
            (h4.mono (by omega)).keep fun k' hk' => by
              have h5 := (h4.own_lt hk').1
              rw [heap_drew, put3 wr (w.heap.size + 1) k' _ _ _ (by omega)]
          unfold ROut3
          exact ⟨_, _, rfl, hfin, (below3 hM.out.bel (Nat.le_succ _) _ _ _).drew⟩
end
end Go.Proofs.Ytjapfckadikjiaa
