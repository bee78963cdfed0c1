/- The document's Without. -/
import Derived.Test.YtaejhppfcmeopaaLxQ
import Derived.Test.YtaejhppfcmeopaaLxP
import Derived.Test.YtaejhppfcmeopaaLxF
import Derived.Test.YtaejhppfcmeopaaLvY
import Derived.Test.YtaejhppfcmeopaaLwC
namespace Go.Proofs.Ytaejhppfcmeopaa
open Go.RowKit
theorem upB_up (C : Nat → Bool) (x : Nat) : up C x true = upB C x := by
  funext y
  by_cases e : y = x
  · subst e; rw [up_same, upB_same]
  · rw [up_other _ _ e]; unfold upB; rw [if_neg e]
/-- What lies in memory while it is searched. -/
structure Wm (w wr : World) (n : Nat) (C : Nat → Bool) (v : Value) (xs : List Nat) : Prop where
  t : Tr1 wr w.heap.size n C
  q : Qs wr (w.heap.size + 1) v (zs xs)
  b : Below w.heap.size w wr
section
variable {w wr w' : World} {n : Nat} {C : Nat → Bool} {v : Value} {xs : List Nat}
theorem Wm.under (M : Wm w wr n C v xs) (h : Below wr.heap.size wr w') : Wm w w' n C v xs := ⟨M.t.keep (h.block _ M.t.lt), M.q.below h, M.b.trans (h.mono M.b.size)⟩
theorem Wm.come (M : Wm w wr n C v xs) (x : Nat) : Wm w (wr.setCell ⟨w.heap.size, x, none⟩ (.bool true)) n (upB C x) v xs := by
  refine ⟨by rw [← upB_up]; exact M.t.set true, M.q.keep fun g hg => Below.heap_setCell _ _ _ _ ?_, M.b.setCell (Nat.le_refl _) _⟩
  have := (M.q.lt g hg).1
  show g ≠ w.heap.size
  omega
theorem Wm.push (M : Wm w wr n C v xs) (y : Nat) (hl : xs.length ≤ 100000) : ∃ v' w', (Builtin.append_ #[34, 34] 34 #[v, .slice (some ⟨wr.heap.size, 0, none⟩) 1 1]).run Try.prog (wr.alloc (.cells #[.int .i64 (y : Int)] 3)) = .ok v' w' ∧ Wm w w' n C v' (xs ++ [y]) := by
  have hB1 := (Below.refl wr.heap.size wr).alloc (Nat.le_refl _) (.cells #[.int .i64 (y : Int)] 3)
  have M1 := M.under hB1
  obtain ⟨v', w', hr, hq, hgr, _⟩ := M1.q.app1 (by have := M1.t.lt; omega) (heap_new wr (.cells #[.int .i64 (y : Int)] 3) rfl) (by rw [zs_len]; omega)
  refine ⟨v', w', hr, M1.t.keep (hgr.block _ M1.t.lt fun e => ?_), by rw [show zs (xs ++ [y]) = zs xs ++ [(y : Int)] by simp [zs]]; exact hq, ⟨hgr.os.trans M1.b.os, hgr.tape.trans M1.b.tape, hgr.output.trans M1.b.output, Nat.le_trans M1.b.size hgr.size, fun j hj => ?_⟩⟩
  · have := (M1.q.lt _ e.symm).1; omega
  · exact (hgr.block j (Nat.lt_of_lt_of_le hj M1.b.size) (fun e => by have := (M1.q.lt j e.symm).1; omega)).trans (M1.b.block j hj)
theorem Wm.pop {b : Nat} (M : Wm w wr n C v (b :: xs)) : ∃ g off cap, v = .slice (some ⟨g, off, none⟩) (xs.length + 1) cap ∧ wr.cell? ⟨g, off, none⟩ = some (.int .i64 (b : Int)) ∧ xs.length + 1 ≤ cap ∧ Wm w wr n C (.slice (if cap = 1 then some ⟨g, off, none⟩ else some ⟨g, off + 1, none⟩) xs.length (cap - 1)) xs := by
  have hq : Qs wr (w.heap.size + 1) v ((b : Int) :: zs xs) := M.q
  obtain ⟨g, off, cap, hv, hc, hcap, Q1, Q2⟩ := hq.pop
  rw [zs_len] at hv hcap Q1 Q2
  refine ⟨g, off, cap, hv, hc, hcap, M.t, ?_, M.b⟩
  by_cases e : cap = 1
  · rw [if_pos e, e]; exact Q2 e
  · rw [if_neg e]; exact Q1
theorem Wm.form (M : Wm w wr n C v xs) : ∃ ao cap, v = .slice ao xs.length cap := by
  obtain ⟨ao, cap, h⟩ := M.q.len
  rw [zs_len] at h
  exact ⟨ao, cap, h⟩
end
section
variable {w : World}
set_option maxRecDepth 20000 in
set_option maxHeartbeats 8000000 in
theorem rwithout_any {v : Value} {bs : List Blk} {K : Nat} (S : Snd bs K) (R : BlksAt w v bs) (h0 : bs ≠ []) {g : Int} {d : Nat} (hg : ∀ y, y < bs.length → ((y : Int) = g ↔ y = d)) (hg0 : g = 0 ↔ d = 0) : Calls Try.prog 28 #[v, .int .i64 g] w fun e w' => e = .returned (.slice (some ⟨w.heap.size, 0, none⟩) bs.length bs.length) ∧ Below w.heap.size w w' ∧ Hid (∃ W : Nat → Bool, Tr1 w' w.heap.size bs.length W ∧ ∀ x, W x = true ↔ Av (goN bs) d x) := by
  have hl := S.l
  have hpos := List.length_pos_iff.mpr h0
  have HR := hide R
  have HS := hide S
  have HLT := hide (fun (x y : Nat) (h : y ∈ goN bs x) => goN_lt S x y h)
  obtain ⟨ao, cap, rfl, _⟩ := R
  obtain ⟨n, hn⟩ : ∃ n, bs.length = n := ⟨_, rfl⟩
  have HN := hide hn
  rw [hn] at hl HR hg HLT hpos ⊢
  have hn2 : (n : Int) ≤ 512 := by omega
  have hn1 : (0 : Int) < (n : Int) := by omega
  have hnz : ((n : Int) == 0) = false := by simp; omega
  have HG := hide hg
  clear S hn h0 hg
  have hmk := fun W : World => run_bools W n (by omega)
  have T0 : Tr1 (w.alloc (.cells (reps n (.bool false)) 4)) w.heap.size n (fun _ => false) := ⟨_, heap_new _ _ rfl, reps_size _ _, fun i hi => reps_get hi⟩
  have hB0 := (Below.refl w.heap.size w).alloc (Nat.le_refl _) (.cells (reps n (.bool false)) 4)
  obtain ⟨W1, hW1⟩ : ∃ W1, w.alloc (.cells (reps n (.bool false)) 4) = W1 := ⟨_, rfl⟩
  have HSZ : Hid (W1.heap.size = w.heap.size + 1) := hide (by rw [← hW1]; simp)
  rw [hW1] at T0 hB0
  have HB0 := hide hB0
  have HT0 := hide T0
  clear hB0
  by_cases hgz : g = 0
  · have hd0 := hg0.mp hgz
    subst hgz hd0
    go_enter Try.func28, Try.ntmps28
    go_wp2
    go_ret
    exact ⟨rfl, HB0.out, ⟨fun _ => false, HT0.out, fun x => Iff.intro (fun h => by cases h) (fun h => (Av.none h).elim)⟩⟩
  · have hd0 : d ≠ 0 := fun e => hgz (hg0.mpr e)
    have hgz2 : (g == 0) = false := by simpa using hgz
    have hgz3 : decide (g = 0) = false := by simpa using hgz
    have HD0 := hide hd0
    clear hgz hg0 hd0
    have cz := T0.cell hpos
    have lz := T0.lt
    go_enter Try.func28, Try.ntmps28
    go_upto_region 4 with fail
    obtain ⟨cz1, cz2⟩ := cz
    clear T0 hW1 hmk
    go_upto_region 5 with fail
    have hT1 := HT0.out.set (i := 0) true
    rw [upB_up] at hT1
    have hz1 := HSZ.out
    have HM0 : Hid (Wm w ((W1.setCell ⟨w.heap.size, 0, none⟩ (.bool true)).alloc (.cells #[.int .i64 0] 3)) n (upB (fun _ => false) 0) (.slice (some ⟨W1.heap.size, 0, none⟩) 1 1) [0]) := hide (by
      have hb : Below (W1.setCell ⟨w.heap.size, 0, none⟩ (.bool true)).heap.size (W1.setCell ⟨w.heap.size, 0, none⟩ (.bool true)) ((W1.setCell ⟨w.heap.size, 0, none⟩ (.bool true)).alloc (.cells #[.int .i64 0] 3)) := (Below.refl _ _).alloc (Nat.le_refl _) _
      have hB1 : Below w.heap.size w (W1.setCell ⟨w.heap.size, 0, none⟩ (.bool true)) := HB0.out.setCell (Nat.le_refl _) _
      refine ⟨hT1.keep (hb.block _ hT1.lt), Qs.of_row ?_, hB1.trans (hb.mono hB1.size)⟩
      exact ⟨rfl, .inr ⟨W1.heap.size, 1, #[.int .i64 0], rfl, by omega, heap_new _ _ (by simp), Nat.le_refl _, by decide, rfl, rfl⟩⟩)
    clear cz1 cz2 lz hT1 hz1
    go_upto_region 6 with fail
    have HBQ := hide (Bq.start (E := goN bs) (Ne.symm HD0.out))
    clear hgz2 hgz3
    go_loopg [6] (2 * n + 1) (fun G vq wr => ∃ (G0 : Nat) (C : Nat → Bool) (xs : List Nat), G0 = G ∧ 2 * cnF C n + xs.length ≤ G0 ∧ xs.length ≤ 512 ∧ (∃ a c, vq = .slice a xs.length c) ∧ Hid (Wm w wr n C vq xs ∧ Bq (goN bs) d C xs ∧ cnF C n + xs.length ≤ n))
    case atStart =>
      have hc : cnF (upB (fun _ => false) 0) n + 1 ≤ n := by
        have := cnF_up (C := fun _ => false) hpos rfl
        have h2 : cnF (fun _ => false) n ≤ n := by unfold cnF; exact Nat.le_trans List.countP_le_length (by simp)
        omega
      exact ⟨2 * n + 1, _, [0], rfl, by simp only [List.length_cons, List.length_nil]; omega, by simp, ⟨_, _, rfl⟩, HM0.out, HBQ.out, by simpa using hc⟩
    case round =>
      obtain ⟨G0, C, xs, hG0, hG, hxl, ⟨aq, cq, rfl⟩, HI⟩ := hrel
      match xs, hG, hxl, HI with
      | [], hG, hxl, HI =>
        go_wp2
        go_ret
        exact ⟨rfl, HI.out.1.b, ⟨C, HI.out.1.t, HI.out.2.1.fin⟩⟩
      | b :: q, hG, hxl, HI =>
        obtain ⟨gq, off, cp, hv, hc, hcap, M2⟩ := HI.out.1.pop
        have hbn : b < n := by
          have := (HI.out.2.1.so b (HI.out.2.1.qm b (List.mem_cons_self ..))).cm
          cases this with
          | here => exact hpos
          | on _ hy => exact HLT.out _ _ hy
        cases hv
        obtain ⟨bl, hbl⟩ : ∃ x, bs[b]? = some x := ⟨bs[b]'(by rw [HN.out]; exact hbn), by simp⟩
        have HW := hide (And.intro M2 (And.intro HI.out.2.1.pop HI.out.2.2))
        have HBL := hide hbl
        rw [List.length_cons] at hG hxl
        have bq : (q.length : Int) ≤ 512 := by omega
        have bq2 : (q.length : Int) + 1 ≤ (cq : Int) := by omega
        have bb : (b : Int) < (n : Int) := by omega
        have hG2 := hide hG
        have hX2 := hide hxl
        clear M2 HI hbl
        rw [List.length_cons]
        go_upto_region 9 with fail
        obtain ⟨aq, haq⟩ : ∃ a, (if cq = 1 then some (⟨gq, off, none⟩ : Addr) else some ⟨gq, off + 1, none⟩) = a := ⟨_, rfl⟩
        rw [haq] at HW ⊢
        obtain ⟨ck, hck⟩ : ∃ c, cq - 1 = c := ⟨_, rfl⟩
        rw [hck] at HW ⊢
        obtain ⟨gb, ob, au, cu, ad, cd, an, cn, rfl, hgb, _, _, e2, _, _, IN⟩ := (HR.out.below HW.out.1.b).get HBL.out
        have hnl := IN.len
        obtain ⟨mn, hmn⟩ : ∃ mn, bl.n.length = mn := ⟨_, rfl⟩
        have HMN := hide hmn
        rw [hmn] at hnl
        have hEl : (goN bs b).length = mn := by rw [goN_of HBL.out, List.length_map]; exact hmn
        have HEL := hide hEl
        have hnl2 : (mn : Int) ≤ 9223372036854775807 := by omega
        clear hc hcap haq hck e2 IN hgb hmn hEl hxl
        go_wp2
        go_loopw [6, 8] (fun vq i wi => ∃ (C2 : Nat → Bool) (q2 : List Nat) (k : Nat), k ≤ mn ∧ i = .int .i64 k ∧ q2.length ≤ 512 ∧ (∃ a c, vq = .slice a q2.length c) ∧ Hid (Wm w wi n C2 vq q2 ∧ Br (goN bs) d C2 q2 b k ∧ 2 * cnF C2 n + q2.length + 1 ≤ G0 ∧ cnF C2 n + q2.length ≤ n)) (fun _ i _ => mn - (intOf i).toNat)
        case atStart => exact ⟨C, q, 0, Nat.zero_le _, rfl, by have := hX2.out; omega, ⟨_, _, rfl⟩, HW.out.1, HW.out.2.1, by have := hG2.out; omega, by have := HW.out.2.2; rw [List.length_cons] at this; omega⟩
        case round =>
          obtain ⟨C2, q2, k, hk, rfl, hq2, ⟨a2, c2, rfl⟩, HI⟩ := hrel
          have HBW := hide HI.out.1.b
          obtain ⟨gb', ob', au', cu', ad', cd', an', cn', e', hgb, _, _, e2, _, _, IN⟩ := (HR.out.below HBW.out).get HBL.out
          cases e'
          rw [HMN.out] at e2
          have HIN := hide IN
          clear IN
          by_cases hkm : k < mn
          · have bk : (k : Int) < (mn : Int) := by omega
            obtain ⟨y0, hy0⟩ : ∃ y, bl.n[k]? = some y := ⟨bl.n[k]'(by rw [HMN.out]; exact hkm), by simp⟩
            obtain ⟨y, rfl, hyn⟩ := HS.out.n b bl HBL.out y0 (List.mem_of_getElem? hy0)
            rw [HN.out] at hyn
            have hIN := HIN.out
            obtain ⟨ai, ci, ei⟩ := hIN.slice
            obtain ⟨gn, on, e3, ln, kn⟩ := hIN.cell hy0
            subst e3
            have hgk : (goN bs b)[k]? = some y := by rw [goN_of HBL.out]; simp [hy0]
            have by2 : (y : Int) < (n : Int) := by omega
            obtain ⟨cy, zy⟩ := HI.out.1.t.cell hyn
            have ly := HI.out.1.t.lt
            have hgy := HG.out y hyn
            have HGK := hide hgk
            clear hIN ei hy0 hgk HIN
            cases hcy : C2 y with
            | true =>
              rw [hcy] at cy
              have HSK := hide (HI.out.2.1.skip HGK.out (.inr hcy))
              clear hcy hgy
              go_wp2
              go_roundw
              case rel => exact ⟨C2, q2, k + 1, by omega, by go_num, hq2, ⟨_, _, rfl⟩, HI.out.1, HSK.out, HI.out.2.2⟩
              case measure => simp [intOf]; omega
            | false =>
              rw [hcy] at cy
              by_cases hyd : y = d
              · have hyg := hgy.mpr hyd
                have hyg2 : ((y : Int) == g) = true := by simpa using hyg
                have hyg3 : decide ((y : Int) = g) = true := by simpa using hyg
                have HSK := hide (HI.out.2.1.skip HGK.out (.inl hyd))
                clear hcy hgy hyd hyg
                go_wp2
                go_roundw
                case rel => exact ⟨C2, q2, k + 1, by omega, by go_num, hq2, ⟨_, _, rfl⟩, HI.out.1, HSK.out, HI.out.2.2⟩
                case measure => simp [intOf]; omega
              · have hyg : ¬ (y : Int) = g := fun e => hyd (hgy.mp e)
                have hyg2 : ((y : Int) == g) = false := by simpa using hyg
                have hyg3 : decide ((y : Int) = g) = false := by simpa using hyg
                have hup := cnF_up hyn hcy
                obtain ⟨v3, W3, hr, M3⟩ := (HI.out.1.come y).push y (by omega)
                obtain ⟨a3, c3, hv3⟩ := M3.form
                subst hv3
                have hll : (q2 ++ [y]).length = q2.length + 1 := by simp
                rw [hll] at M3 hr
                have hfin := HI.out.2.2
                have hsz : (wr.setCell ⟨w.heap.size, y, none⟩ (.bool true)).heap.size = wr.heap.size := by simp
                rw [hsz] at hr
                have HP3 : Hid (Wm w W3 n (upB C2 y) (.slice a3 (q2.length + 1) c3) (q2 ++ [y]) ∧ Br (goN bs) d (upB C2 y) (q2 ++ [y]) b (k + 1) ∧ 2 * cnF (upB C2 y) n + (q2 ++ [y]).length + 1 ≤ G0 ∧ cnF (upB C2 y) n + (q2 ++ [y]).length ≤ n) := hide ⟨M3, HI.out.2.1.push HGK.out hyd, by rw [List.length_append, List.length_singleton]; omega, by rw [List.length_append, List.length_singleton]; omega⟩
                have hq3 : (q2 ++ [y]).length ≤ 512 := by have := HP3.out.2.2.2; omega
                have HRUN := hide hr
                clear hcy hgy hyd hyg hr M3 hup hfin hsz hll
                go_wp2_with (refine wpList_append_eq (by rfl) _ _ 34 (by rfl) (by rfl) (by rfl) HRUN.out ?_)
                go_roundw
                case rel => exact ⟨upB C2 y, q2 ++ [y], k + 1, by omega, by go_num, hq3, ⟨_, _, by rw [List.length_append]; rfl⟩, HP3.out⟩
                case measure => simp [intOf]; omega
          · obtain rfl : k = mn := by omega
            have HD := hide (HI.out.2.1.done (by rw [HEL.out]; exact Nat.le_refl _))
            go_wp2
            go_roundg (G0 - 1)
            case measure => have := hG2.out; omega
            case rel => exact ⟨G0 - 1, C2, q2, rfl, by have := HI.out.2.2.1; omega, hq2, ⟨_, _, rfl⟩, HI.out.1, HD.out, HI.out.2.2.2⟩
end
end Go.Proofs.Ytaejhppfcmeopaa
