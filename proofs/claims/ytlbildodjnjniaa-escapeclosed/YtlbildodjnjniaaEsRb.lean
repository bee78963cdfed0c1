/- The document's Comes: the walk. -/
import Derived.Test.YtlbildodjnjniaaEsOb
import Derived.Test.YtlbildodjnjniaaEsRa
namespace Go.Proofs.Ytlbildodjnjniaa
open Go.RowKit

/-- The list that is being made. -/
structure Co (w0 w : World) (bo n : Nat) (O : Nat → Int) : Prop where
  blk : ∃ arr, w.heap[bo]? = some (.cells arr 3 (0, 0)) ∧ arr.size = n ∧ ∀ i, i < n → arr[i]? = some (.int .i64 (O i))
  bel : Below w0.heap.size w0 w
  lo : w0.heap.size ≤ bo
section
variable {w0 w w' : World} {bo n : Nat} {O : Nat → Int}
theorem Co.under (C : Co w0 w bo n O) (hb : Below w.heap.size w w') : Co w0 w' bo n O := by
  obtain ⟨arr, h1, h2, h3⟩ := C.blk
  exact ⟨⟨arr, (hb.block _ (lt_of_block h1)).trans h1, h2, h3⟩, C.bel.trans (hb.mono C.bel.size), C.lo⟩
theorem Co.cell (C : Co w0 w bo n O) {i : Nat} (hi : i < n) : w.cell? ⟨bo, i, none⟩ = some (.int .i64 (O i)) := by
  obtain ⟨arr, h1, h2, h3⟩ := C.blk
  exact cell_of h1 (h3 i hi)
theorem Co.fz (C : Co w0 w bo n O) (i : Nat) : w.frozen? ⟨bo, i, none⟩ = false ∧ bo < w.heap.size := by
  obtain ⟨arr, h1, h2, h3⟩ := C.blk
  exact ⟨fz_of _ h1, lt_of_block h1⟩
theorem Co.set (C : Co w0 w bo n O) {x : Nat} (hx : x < n) (d : Int) : Co w0 (w.setCell ⟨bo, x, none⟩ (.int .i64 d)) bo n (upf O x d) := by
  obtain ⟨arr, h1, h2, h3⟩ := C.blk
  refine ⟨⟨_, heap_setCell_same _ _ _ _ h1, by simpa using h2, fun i hi => ?_⟩, C.bel.setCell C.lo _, C.lo⟩
  by_cases e : i = x
  · subst e; rw [upf_same, Array.getElem?_setIfInBounds, if_pos rfl, if_pos (by omega)]
  · rw [upf_other _ _ e, Array.getElem?_setIfInBounds, if_neg (fun h => e h.symm)]; exact h3 i hi
theorem Co.new (hb : Below w0.heap.size w0 w) : Co w0 (w.alloc (.cells (reps n (.int .i64 0)) 3)) w.heap.size n (fun _ => 0) :=
  ⟨⟨_, heap_new _ _ rfl, reps_size _ _, fun _ hi => reps_get hi⟩, hb.alloc hb.size _, hb.size⟩
theorem Co.eq {O' : Nat → Int} (C : Co w0 w bo n O) (h : ∀ i, i < n → O i = O' i) : Co w0 w bo n O' := by
  obtain ⟨arr, h1, h2, h3⟩ := C.blk
  exact ⟨⟨arr, h1, h2, fun i hi => by rw [← h i hi]; exact h3 i hi⟩, C.bel, C.lo⟩
end
/-- The first k flows are told. -/
def ClsF (n : Nat) (root : Int) (O : Nat → Int) (fs : List Fl) (k : Nat) : Prop := ∀ (j : Nat) (f : Fl), j < k → fs[j]? = some f → ClF n root O f
theorem ClsF.succ {n : Nat} {root : Int} {O : Nat → Int} {fs : List Fl} {k : Nat} {f : Fl} (C : ClsF n root O fs k) (hf : fs[k]? = some f) (h : ClF n root O f) : ClsF n root O fs (k + 1) := fun j g hj hg => by
  rcases Nat.lt_or_ge j k with h1 | h1
  · exact C j g h1 hg
  · obtain rfl : j = k := by omega
    rw [hf] at hg; cases hg; exact h
theorem ClsF.all {n : Nat} {root : Int} {O : Nat → Int} {fs : List Fl} (C : ClsF n root O fs fs.length) : ∀ f ∈ fs, ClF n root O f := fun f hf => by
  obtain ⟨j, hj⟩ := List.getElem?_of_mem hf
  exact C j f (get_lt hj) hj
set_option maxHeartbeats 4000000 in
theorem rcomes_any {w : World} {vp vf : Value} {ps : List Pt} {fs : List Fl} {root : Int} (R : PtsAt w vp ps) (F : FlsAt w vf fs) (G : Good ps fs) (hn60 : ps.length ≤ 60) (hr : -1 ≤ root) (hr2 : root < ps.length) :
    Calls Try.prog 13 #[vp, vf, .int .i64 root] w fun e w' => ∃ (bo : Nat) (O : Nat → Int), e = .returned (.slice (some ⟨bo, 0, none⟩) ps.length ps.length) ∧ Hid (Co w w' bo ps.length O ∧ Lst fs 51200 root (lo root O ps.length)) := by
  obtain ⟨ao, cap, rfl, _⟩ := R
  obtain ⟨fo, cbp, rfl, hF⟩ := F
  have hfl := G.fl
  have hS := G.snd
  generalize hn : ps.length = n at *
  generalize hm : fs.length = m at *
  have HM0 := hide hm
  have HF := hide hF
  have HS := hide hS
  have b1 : (n : Int) ≤ 60 := by omega
  have b2 : (m : Int) ≤ 20000 := by omega
  have hmk := fun W : World => run_ints W n (by omega)
  have C0 := hide (Co.new (n := n) (Below.refl _ w))
  clear hn hm hF hS G
  go_enter Try.func13, Try.ntmps13
  go_upto_region 2 with fail
  generalize w.alloc (.cells (reps n (.int .i64 0)) 3) = W1 at C0 ⊢
  generalize hbo : w.heap.size = bo at C0 ⊢
  have HBO := hide hbo
  clear hbo hmk
  go_wp2
  go_loopg [8] n (fun K i wr => ∃ j : Nat, i = .int .i64 j ∧ j ≤ n ∧ n - j ≤ K ∧ Hid (Co w wr bo n (fun i => if i < j then -2 else 0)))
  case atStart => exact ⟨0, rfl, Nat.zero_le _, Nat.le_refl _, hide (C0.out.eq fun _ _ => by simp)⟩
  case round =>
    clear C0
    obtain ⟨j, rfl, hj, hkk, HC⟩ := hrel
    obtain ⟨G1, rfl⟩ : ∃ G1, G1 = gk := ⟨gk, rfl⟩
    by_cases hlt : j < n
    · have c0 := HC.out.cell hlt
      obtain ⟨cf, cl⟩ := HC.out.fz j
      have bj : (j : Int) < (n : Int) := by omega
      have HN := hide ((HC.out.set hlt (-2)).eq (O' := fun i => if i < j + 1 then -2 else 0) fun i hi => by
        by_cases e : i = j
        · subst e; rw [upf_same, if_pos (by omega)]
        · rw [upf_other _ _ e]
          by_cases h : i < j
          · rw [if_pos h, if_pos (by omega)]
          · rw [if_neg h, if_neg (by omega)])
      clear HC
      go_wp2
      go_roundg (n - (j + 1))
      case measure => omega
      case rel => exact ⟨j + 1, by go_num, by omega, Nat.le_refl _, HN⟩
    · obtain rfl : n = j := by omega
      have C1 := hide (HC.out.eq (O' := fun _ => -2) fun i hi => by rw [if_pos hi])
      have CN := CI.new (fs := fs) hr2
      clear HC
      go_upto_region 6 with fail
      by_cases hr0 : 0 ≤ root
      case' pos =>
        have hr0n : root.toNat < n := by omega
        have c0 := C1.out.cell hr0n
        obtain ⟨cf, cl⟩ := C1.out.fz root.toNat
        have hg0 : decide (0 ≤ root) = true := by simpa using hr0
        have C2 := hide (C1.out.set hr0n 0)
        rw [if_pos hr0] at CN
        have HCN := hide CN
        clear CN C1
        go_upto_region 8 with fail
        generalize wr.setCell ⟨bo, root.toNat, none⟩ (.int .i64 0) = W2 at C2 ⊢
        clear c0 cf cl hg0
        generalize upf (fun _ => -2) root.toNat 0 = O0 at C2 HCN
        clear hr0n
      case' neg =>
        have hg0 : decide (0 ≤ root) = false := by simpa using hr0
        rw [if_neg hr0] at CN
        have HCN := hide CN
        have C2 := C1
        clear CN C1
        go_upto_region 8 with fail
        generalize wr = W2 at C2 ⊢
        clear hg0
        generalize (fun _ => -2 : Nat → Int) = O0 at C2 HCN
      all_goals
        clear hr0
        go_wp2
        go_loopg [9] (Phn O0 n + 1) (fun K v wr => ∃ (O : Nat → Int) (b : Bool), v = .bool b ∧ Hid (Co w wr bo n O) ∧ Hid (CI n fs root O) ∧ Hid (b = false → ClsF n root O fs m) ∧ Hid (Phn O n + b2n b ≤ K))
        case atStart => exact ⟨O0, true, rfl, C2, HCN, hide (fun h => by cases h), hide (Nat.le_refl _)⟩
        case round =>
          clear C2 HCN
          obtain ⟨O, b, rfl, HM, HI, HC, HK⟩ := hrel
          obtain ⟨G1, rfl⟩ : ∃ G1, G1 = gk := ⟨gk, rfl⟩
          cases b with
          | false =>
            go_wp2
            go_ret
            exact ⟨bo, rfl, O, hide ⟨HM.out, HI.out.lst HS.out hn60 hr hr2 (ClsF.all (by rw [HM0.out]; exact HC.out (by trivial)))⟩⟩
          | true =>
            go_upto_region 12 with fail
            generalize hc0 : Phn O n = c0 at HK
            have HC0 := hide (show Phn O n + b2n false ≤ c0 by rw [hc0]; exact Nat.le_refl _)
            clear hc0
            go_loopg [9, 10] m (fun K2 v9 vi wr2 => ∃ (k : Nat) (O : Nat → Int) (b : Bool), v9 = .bool b ∧ vi = .int .i64 k ∧ k ≤ m ∧ m - k ≤ K2 ∧ Hid (Co w wr2 bo n O) ∧ Hid (CI n fs root O) ∧ Hid (b = false → ClsF n root O fs k) ∧ Hid (Phn O n + b2n b ≤ c0))
            case atStart => exact ⟨0, O, false, rfl, rfl, Nat.zero_le _, Nat.le_refl _, HM, HI, hide (fun _ j f hj => absurd hj (Nat.not_lt_zero _)), HC0⟩
            case round =>
              clear HM HI HC HC0
              obtain ⟨k, O', b, rfl, rfl, hk, hgk, HM2, HI2, HC2, HK2⟩ := hrel
              obtain ⟨G2, rfl⟩ : ∃ G2, G2 = gk := ⟨gk, rfl⟩
              by_cases hlt : k < m
              · obtain ⟨f, hf⟩ : ∃ f, fs[k]? = some f := ⟨fs[k]'(by rw [HM0.out]; exact hlt), by simp⟩
                obtain ⟨g, o, rfl, hg, e0, e1, e2⟩ := HF.out k f hf
                rw [← HM2.out.bel.cell (p := ⟨g, o + k * 3, none⟩) hg] at e0
                rw [← HM2.out.bel.cell (p := ⟨g, o + k * 3 + 1, none⟩) hg] at e1
                rw [← HM2.out.bel.cell (p := ⟨g, o + k * 3 + 2, none⟩) hg] at e2
                obtain ⟨s1, s2, s3, s4, s5, s6⟩ := HS.out f (List.mem_of_getElem? hf)
                obtain ⟨x, hx⟩ : ∃ x : Nat, f.fr = x := ⟨f.fr.toNat, by omega⟩
                obtain ⟨rf, hrf⟩ : ∃ r, f.rf = r := ⟨_, rfl⟩
                have hxn : x < n := by omega
                rw [hx] at e1
                rw [hrf] at e2 s5 s6
                have HX := hide hx
                have HRF := hide hrf
                have HFM := hide hf
                obtain ⟨W3, hW3⟩ : ∃ W3, wr.alloc (.cells #[.int .i64 f.to, .int .i64 (x : Int), .int .i64 rf] 42) = W3 := ⟨_, rfl⟩
                have hb3 : Below wr.heap.size wr W3 := by rw [← hW3]; exact (Below.refl _ _).alloc (Nat.le_refl _) _
                have bx3 : W3.heap[wr.heap.size]? = some (.cells #[.int .i64 f.to, .int .i64 (x : Int), .int .i64 rf] 42 (0, 0)) := by rw [← hW3]; exact heap_new _ _ rfl
                have M3 := HM2.out.under hb3
                have HM3 := hide M3
                obtain ⟨cf, cl⟩ := M3.fz x
                have cx := M3.cell hxn
                obtain ⟨ox, hox⟩ : ∃ y, O' x = y := ⟨_, rfl⟩
                rw [hox] at cx
                have HOX := hide hox
                have rx := HI2.out.rng x hxn
                rw [hox] at rx
                have hcr := cntR_le O' n
                have bx : (x : Int) < (n : Int) := by omega
                have bk : (k : Int) < (m : Int) := by omega
                by_cases ht : f.to = -1
                · rw [ht] at bx3 hW3 e0
                  have q0 := cell_of bx3 (o := 0) rfl
                  have q1 := cell_of bx3 (o := 1) rfl
                  have q2 := cell_of bx3 (o := 2) rfl
                  by_cases hrr : 0 ≤ root
                  · have hrr' : decide (0 ≤ root) = true := by simpa using hrr
                    have HLO := hide (show lo root O' n f.to = -2 by rw [ht, lo_heap, if_neg (by omega)])
                    clear hf hx hrf hox hb3 M3 ht
                    have hcl := hide (fun hb : b = false => (HC2.out hb).succ HFM.out (.inl HLO.out))
                    go_wp2
                    go_roundg (G2 - 1)
                    case measure => omega
                    case rel => exact ⟨k + 1, O', b, rfl, by go_num, by omega, by omega, HM3, HI2, hcl, HK2⟩
                  · have hrr' : decide (0 ≤ root) = false := by simpa using hrr
                    have HLO := hide (show lo root O' n f.to = 0 by rw [ht, lo_heap, if_pos (by omega)])
                    have hd2 : (0 : Int) ≠ -2 := by decide
                    clear hf hx hrf hox hb3 M3 ht
                    have HTO := hide (show lo root O' n f.to ≠ -2 by rw [HLO.out]; exact hd2)
                    obtain ⟨d, hd⟩ : ∃ d, 0 + rf = d := ⟨_, rfl⟩
                    have HD := hide (show d = max (lo root O' n f.to) 0 + f.rf by rw [HLO.out, HRF.out]; omega)
                    have HDR := hide (show -1 ≤ d ∧ d ≤ 51200 by omega)
                    have hw1 : IntKind.i64.wrap (0 + rf) = d := by rw [IntKind.wrap_i64]; omega
                    by_cases k1 : ox = -2
                    · have k1' : (ox == -2) = true := by simpa using k1
                      have hnx := hide (HI2.out.relax HS.out hn60 (List.mem_of_getElem? HFM.out) HX.out HTO.out HD.out (by rw [HOX.out]; exact .inl k1))
                      have hph := hide (phn_less (O := O') (a := x) (m := n) (d := d) hxn HDR.out.1 HDR.out.2 (by rw [HOX.out]; exact .inl k1))
                      have HM8 := hide (HM3.out.set hxn d)
                      go_wp2
                      go_roundg (G2 - 1)
                      case measure => omega
                      case rel => exact ⟨k + 1, upf O' x d, true, rfl, by go_num, by omega, by omega, HM8, hnx, hide (fun h => by cases h), hide (by have h1 := hph.out; have h2 := HK2.out; show _ + 1 ≤ c0; omega)⟩
                    · have k1' : (ox == -2) = false := by simpa using k1
                      by_cases k2 : 0 + rf < ox
                      · have k2' : decide (0 + rf < ox) = true := by simpa using k2
                        have hnx := hide (HI2.out.relax HS.out hn60 (List.mem_of_getElem? HFM.out) HX.out HTO.out HD.out (by rw [HOX.out]; exact .inr (by omega)))
                        have hph := hide (phn_less (O := O') (a := x) (m := n) (d := d) hxn HDR.out.1 HDR.out.2 (by rw [HOX.out]; exact .inr (by omega)))
                        have HM8 := hide (HM3.out.set hxn d)
                        go_wp2
                        go_roundg (G2 - 1)
                        case measure => omega
                        case rel => exact ⟨k + 1, upf O' x d, true, rfl, by go_num, by omega, by omega, HM8, hnx, hide (fun h => by cases h), hide (by have h1 := hph.out; have h2 := HK2.out; show _ + 1 ≤ c0; omega)⟩
                      · have k2' : decide (0 + rf < ox) = false := by simpa using k2
                        have hcl := hide (fun hb : b = false => (HC2.out hb).succ HFM.out (.inr (by rw [HX.out, Int.toNat_natCast, HOX.out, HLO.out, HRF.out]; omega)))
                        go_wp2
                        go_roundg (G2 - 1)
                        case measure => omega
                        case rel => exact ⟨k + 1, O', b, rfl, by go_num, by omega, by omega, HM3, HI2, hcl, HK2⟩
                · obtain ⟨t, htt⟩ : ∃ t : Nat, f.to = t := ⟨f.to.toNat, by omega⟩
                  have htn : t < n := by omega
                  rw [htt] at bx3 hW3 e0
                  have q0 := cell_of bx3 (o := 0) rfl
                  have q1 := cell_of bx3 (o := 1) rfl
                  have q2 := cell_of bx3 (o := 2) rfl
                  have ct := M3.cell htn
                  obtain ⟨d0, hd0⟩ : ∃ y, O' t = y := ⟨_, rfl⟩
                  rw [hd0] at ct
                  have rt := HI2.out.rng t htn
                  rw [hd0] at rt
                  have HLO := hide (show lo root O' n f.to = d0 by rw [htt, lo_at htn, hd0])
                  have bt : (t : Int) < (n : Int) := by omega
                  clear hf hx hrf hox hb3 M3 ht htt hd0
                  by_cases hd2 : d0 = -2
                  · have hd2' : (d0 == -2) = true := by simpa using hd2
                    have HCL := hide (show ClF n root O' f from .inl (by rw [HLO.out]; exact hd2))
                    have hcl := hide (fun hb : b = false => (HC2.out hb).succ HFM.out HCL.out)
                    go_wp2
                    go_roundg (G2 - 1)
                    case measure => omega
                    case rel => exact ⟨k + 1, O', b, rfl, by go_num, by omega, by omega, HM3, HI2, hcl, HK2⟩
                  · have hd2' : (d0 == -2) = false := by simpa using hd2
                    by_cases hdn : d0 < 0
                    · have hdn' : decide (d0 < 0) = true := by simpa using hdn
                      have HTO := hide (show lo root O' n f.to ≠ -2 by rw [HLO.out]; exact hd2)
                      obtain ⟨d, hd⟩ : ∃ d, 0 + rf = d := ⟨_, rfl⟩
                      have HD := hide (show d = max (lo root O' n f.to) 0 + f.rf by rw [HLO.out, HRF.out]; omega)
                      have HDR := hide (show -1 ≤ d ∧ d ≤ 51200 by omega)
                      have hw1 : IntKind.i64.wrap (0 + rf) = d := by rw [IntKind.wrap_i64]; omega
                      by_cases k1 : ox = -2
                      · have k1' : (ox == -2) = true := by simpa using k1
                        have hnx := hide (HI2.out.relax HS.out hn60 (List.mem_of_getElem? HFM.out) HX.out HTO.out HD.out (by rw [HOX.out]; exact .inl k1))
                        have hph := hide (phn_less (O := O') (a := x) (m := n) (d := d) hxn HDR.out.1 HDR.out.2 (by rw [HOX.out]; exact .inl k1))
                        have HM8 := hide (HM3.out.set hxn d)
                        go_wp2
                        go_roundg (G2 - 1)
                        case measure => omega
                        case rel => exact ⟨k + 1, upf O' x d, true, rfl, by go_num, by omega, by omega, HM8, hnx, hide (fun h => by cases h), hide (by have h1 := hph.out; have h2 := HK2.out; show _ + 1 ≤ c0; omega)⟩
                      · have k1' : (ox == -2) = false := by simpa using k1
                        by_cases k2 : 0 + rf < ox
                        · have k2' : decide (0 + rf < ox) = true := by simpa using k2
                          have hnx := hide (HI2.out.relax HS.out hn60 (List.mem_of_getElem? HFM.out) HX.out HTO.out HD.out (by rw [HOX.out]; exact .inr (by omega)))
                          have hph := hide (phn_less (O := O') (a := x) (m := n) (d := d) hxn HDR.out.1 HDR.out.2 (by rw [HOX.out]; exact .inr (by omega)))
                          have HM8 := hide (HM3.out.set hxn d)
                          go_wp2
                          go_roundg (G2 - 1)
                          case measure => omega
                          case rel => exact ⟨k + 1, upf O' x d, true, rfl, by go_num, by omega, by omega, HM8, hnx, hide (fun h => by cases h), hide (by have h1 := hph.out; have h2 := HK2.out; show _ + 1 ≤ c0; omega)⟩
                        · have k2' : decide (0 + rf < ox) = false := by simpa using k2
                          have hcl := hide (fun hb : b = false => (HC2.out hb).succ HFM.out (.inr (by rw [HX.out, Int.toNat_natCast, HOX.out, HLO.out, HRF.out]; omega)))
                          go_wp2
                          go_roundg (G2 - 1)
                          case measure => omega
                          case rel => exact ⟨k + 1, O', b, rfl, by go_num, by omega, by omega, HM3, HI2, hcl, HK2⟩
                    · have hdn' : decide (d0 < 0) = false := by simpa using hdn
                      have HTO := hide (show lo root O' n f.to ≠ -2 by rw [HLO.out]; exact hd2)
                      obtain ⟨d, hd⟩ : ∃ d, d0 + rf = d := ⟨_, rfl⟩
                      have HD := hide (show d = max (lo root O' n f.to) 0 + f.rf by rw [HLO.out, HRF.out]; omega)
                      have HDR := hide (show -1 ≤ d ∧ d ≤ 51200 by omega)
                      have hw1 : IntKind.i64.wrap (d0 + rf) = d := by rw [IntKind.wrap_i64]; omega
                      by_cases k1 : ox = -2
                      · have k1' : (ox == -2) = true := by simpa using k1
                        have hnx := hide (HI2.out.relax HS.out hn60 (List.mem_of_getElem? HFM.out) HX.out HTO.out HD.out (by rw [HOX.out]; exact .inl k1))
                        have hph := hide (phn_less (O := O') (a := x) (m := n) (d := d) hxn HDR.out.1 HDR.out.2 (by rw [HOX.out]; exact .inl k1))
                        have HM8 := hide (HM3.out.set hxn d)
                        go_wp2
                        go_roundg (G2 - 1)
                        case measure => omega
                        case rel => exact ⟨k + 1, upf O' x d, true, rfl, by go_num, by omega, by omega, HM8, hnx, hide (fun h => by cases h), hide (by have h1 := hph.out; have h2 := HK2.out; show _ + 1 ≤ c0; omega)⟩
                      · have k1' : (ox == -2) = false := by simpa using k1
                        by_cases k2 : d0 + rf < ox
                        · have k2' : decide (d0 + rf < ox) = true := by simpa using k2
                          have hnx := hide (HI2.out.relax HS.out hn60 (List.mem_of_getElem? HFM.out) HX.out HTO.out HD.out (by rw [HOX.out]; exact .inr (by omega)))
                          have hph := hide (phn_less (O := O') (a := x) (m := n) (d := d) hxn HDR.out.1 HDR.out.2 (by rw [HOX.out]; exact .inr (by omega)))
                          have HM8 := hide (HM3.out.set hxn d)
                          go_wp2
                          go_roundg (G2 - 1)
                          case measure => omega
                          case rel => exact ⟨k + 1, upf O' x d, true, rfl, by go_num, by omega, by omega, HM8, hnx, hide (fun h => by cases h), hide (by have h1 := hph.out; have h2 := HK2.out; show _ + 1 ≤ c0; omega)⟩
                        · have k2' : decide (d0 + rf < ox) = false := by simpa using k2
                          have hcl := hide (fun hb : b = false => (HC2.out hb).succ HFM.out (.inr (by rw [HX.out, Int.toNat_natCast, HOX.out, HLO.out, HRF.out]; omega)))
                          go_wp2
                          go_roundg (G2 - 1)
                          case measure => omega
                          case rel => exact ⟨k + 1, O', b, rfl, by go_num, by omega, by omega, HM3, HI2, hcl, HK2⟩
              · obtain rfl : m = k := by omega
                go_wp2
                go_roundg (G1 - 1)
                case measure => have := HK.out; unfold b2n at this; simp at this; omega
                case rel => exact ⟨O', b, rfl, HM2, HI2, HC2, hide (by have h1 := HK2.out; have h2 := HK.out; unfold b2n at h2; simp at h2; omega)⟩
end Go.Proofs.Ytlbildodjnjniaa
