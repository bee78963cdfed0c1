/- The document's token: strings and names; and token itself. -/
import Derived.Test.YthggaojpkfdggaaDoorRefK
namespace Go.Proofs.YthggaojpkfdggaaDoor
open Go.RowKit

set_option maxRecDepth 20000 in
set_option maxHeartbeats 4000000 in
theorem tokR_text (s : ByteArray) (hs : s.size ≤ 65536) (k : Nat) (hk : k < s.size) (hf : firstP s[k] = false) (hd : digitP s[k] = false) (hq : quoteP s[k] = true) (w : World) :
    Calls Tryd.prog 21 #[.string s, .int .i64 k] w fun e w' => TokR k (textL s.data.toList k) e ∧ Below w.heap.size w w' := by
  have cL : ∀ W, Calls Tryd.prog 26 #[.int .u8 s[k].toNat] W _ := fun W => letterR_any s[k] W
  have cD : ∀ W, Calls Tryd.prog 24 #[.int .u8 s[k].toNat] W _ := fun W => digitR_any s[k] W
  rw [hf] at cL
  rw [hd] at cD
  have e34 : ((s[k].toNat : Int) == 34) = true := beqT (d := 34) rfl (quote34 _ hq)
  clear hf hd hq
  have cS : ∀ W, Calls Tryd.prog 35 #[.string s, .int .i64 k] W _ := fun W => strR_any s hs k hk W
  unfold textL
  cases hm : textRes s.data.toList k with
  | none =>
    rw [hm] at cS
    change ∀ W, Calls Tryd.prog 35 _ W (fun e w' => e = .returned (.tuple #[.string ⟨#[]⟩, .int .i64 (-1)]) ∧ _) at cS
    clear hm
    go_enter Tryd.func21, Tryd.ntmps21
    go_wp2_with fail
    refine (cL _).mono ?_
    rintro e w1 ⟨rfl, hw⟩
    subst hw
    go_wp2_with fail
    refine (cD _).mono ?_
    rintro e w1 ⟨rfl, hw⟩
    subst hw
    go_wp2_with fail
    refine (cS _).mono ?_
    rintro e w1 ⟨rfl, hb⟩
    obtain ⟨⟨z0, z1, z2, z3⟩, ⟨t0, t1, t2, t3⟩, zf, tf, hbw⟩ := two_later hb
    clear hb
    go_wp2_with fail
    generalize hWB : (w1.setCell ⟨w.heap.size + 1, 1, none⟩ (.string ⟨#[]⟩)) = WB
    have y0 : WB.cell? ⟨w.heap.size, 0, none⟩ = some (.int .i64 0) := by rw [← hWB]; simp [go_sem, z0]
    have y1 : WB.cell? ⟨w.heap.size, 1, none⟩ = some (.string ⟨#[]⟩) := by rw [← hWB]; simp [go_sem, z1]
    have y2 : WB.cell? ⟨w.heap.size, 2, none⟩ = some (.int .i64 0) := by rw [← hWB]; simp [go_sem, z2]
    have y3 : WB.cell? ⟨w.heap.size, 3, none⟩ = some (.int .i64 0) := by rw [← hWB]; simp [go_sem, z3]
    have yb : Below w.heap.size w WB := by rw [← hWB]; exact hbw.setCell (p := ⟨w.heap.size + 1, 1, none⟩) (Nat.le_succ _) _
    clear hWB
    generalize hWf : (((WB.setCell ⟨w.heap.size, 0, none⟩ (.int .i64 3)).setCell ⟨w.heap.size, 1, none⟩ (.string ⟨#[]⟩)).setCell ⟨w.heap.size, 2, none⟩ (.int .i64 0)).setCell ⟨w.heap.size, 3, none⟩ (.int .i64 k) = Wf
    obtain ⟨_, hw4, d0, d1, d2, d3⟩ := put4 w.heap.size WB _ _ _ _ Wf y0 y1 y2 y3 hWf
    clear hWf
    exact bodyPost_ret (v := .tuple #[.agg #[.int .i64 3, .string ⟨#[]⟩, .int .i64 0, .int .i64 k], .int .i64 (-1)]) (by simp [results, Tryd.results21, go_sem, d0, d1, d2, d3]) rfl ⟨⟨_, _, _, rfl⟩, hw4 _ _ (Nat.le_refl _) yb⟩
  | some x =>
    obtain ⟨t, j⟩ := x
    rw [hm] at cS
    change ∀ W, Calls Tryd.prog 35 _ W (fun e w' => e = .returned (.tuple #[.string ⟨t.toArray⟩, .int .i64 j]) ∧ _) at cS
    clear hm
    have HM : Hid (TokR k (some (3, t, 0, j)) (.returned (.tuple #[.agg #[.int .i64 3, .string ⟨t.toArray⟩, .int .i64 0, .int .i64 k], .int .i64 (j : Int)]))) := rfl
    dsimp only
    generalize (⟨t.toArray⟩ : ByteArray) = mb at *
    go_enter Tryd.func21, Tryd.ntmps21
    go_wp2_with fail
    refine (cL _).mono ?_
    rintro e w1 ⟨rfl, hw⟩
    subst hw
    go_wp2_with fail
    refine (cD _).mono ?_
    rintro e w1 ⟨rfl, hw⟩
    subst hw
    go_wp2_with fail
    refine (cS _).mono ?_
    rintro e w1 ⟨rfl, hb⟩
    obtain ⟨⟨z0, z1, z2, z3⟩, ⟨t0, t1, t2, t3⟩, zf, tf, hbw⟩ := two_later hb
    clear hb
    go_wp2_with fail
    generalize hWB : (w1.setCell ⟨w.heap.size + 1, 1, none⟩ (.string mb)) = WB
    have y0 : WB.cell? ⟨w.heap.size, 0, none⟩ = some (.int .i64 0) := by rw [← hWB]; simp [go_sem, z0]
    have y1 : WB.cell? ⟨w.heap.size, 1, none⟩ = some (.string ⟨#[]⟩) := by rw [← hWB]; simp [go_sem, z1]
    have y2 : WB.cell? ⟨w.heap.size, 2, none⟩ = some (.int .i64 0) := by rw [← hWB]; simp [go_sem, z2]
    have y3 : WB.cell? ⟨w.heap.size, 3, none⟩ = some (.int .i64 0) := by rw [← hWB]; simp [go_sem, z3]
    have yb : Below w.heap.size w WB := by rw [← hWB]; exact hbw.setCell (p := ⟨w.heap.size + 1, 1, none⟩) (Nat.le_succ _) _
    clear hWB
    generalize hWf : (((WB.setCell ⟨w.heap.size, 0, none⟩ (.int .i64 3)).setCell ⟨w.heap.size, 1, none⟩ (.string mb)).setCell ⟨w.heap.size, 2, none⟩ (.int .i64 0)).setCell ⟨w.heap.size, 3, none⟩ (.int .i64 k) = Wf
    obtain ⟨_, hw4, d0, d1, d2, d3⟩ := put4 w.heap.size WB _ _ _ _ Wf y0 y1 y2 y3 hWf
    clear hWf
    exact bodyPost_ret (v := .tuple #[.agg #[.int .i64 3, .string mb, .int .i64 0, .int .i64 k], .int .i64 (j)]) (by simp [results, Tryd.results21, go_sem, d0, d1, d2, d3]) rfl ⟨HM.out, hw4 _ _ (Nat.le_refl _) yb⟩

theorem mk_toList (s : ByteArray) : (⟨s.toList.toArray⟩ : ByteArray) = s := by
  rw [Lib.toList_data]

theorem inner_or : ∀ c : UInt8, innerP c = (firstP c || digitP c) := byte_all (by decide +kernel)

set_option maxRecDepth 20000 in
set_option maxHeartbeats 4000000 in
theorem tokR_name (s : ByteArray) (hs : s.size ≤ 65536) (k : Nat) (hk : k < s.size) (hf : firstP s[k] = true) (w : World) :
    Calls Tryd.prog 21 #[.string s, .int .i64 k] w fun e w' => TokR k (nameL s.data.toList k) e ∧ Below w.heap.size w w' := by
  have cL : ∀ W, Calls Tryd.prog 26 #[.int .u8 s[k].toNat] W _ := fun W => letterR_any s[k] W
  rw [hf] at cL
  clear hf
  go_enter Tryd.func21, Tryd.ntmps21
  go_wp2_with fail
  refine (cL _).mono ?_
  rintro e w1 ⟨rfl, hw⟩
  subst hw
  go_wp2_with fail
  have HE0 : Hid (k ≤ endOf innerP s.data.toList k ∧ endOf innerP s.data.toList k ≤ s.data.toList.length) := ⟨endOf_ge _ _ _, endOf_le _ _ _ (by simp; omega)⟩
  go_loop [7] (fun x => ∃ m : Nat, k ≤ m ∧ m ≤ s.size ∧ x = .int .i64 m ∧ Hid (endOf innerP s.data.toList m = endOf innerP s.data.toList k)) (fun x => s.size - (intOf x).toNat)
  case atStart => exact ⟨k, Nat.le_refl _, by omega, rfl, rfl⟩
  case round =>
    obtain ⟨m, hkm, hms, rfl, HE⟩ := hrel
    by_cases hgo : ∃ h : m < s.size, innerP s[m] = true
    · obtain ⟨hlt, hin⟩ := hgo
      have HN : Hid (endOf innerP s.data.toList (m + 1) = endOf innerP s.data.toList k) := ((endOf_yes (by rw [atP_lt hlt]; exact hin)).2).trans HE.out
      have cM : ∀ W, Calls Tryd.prog 26 #[.int .u8 s[m].toNat] W _ := fun W => letterR_any s[m] W
      have cE : ∀ W, Calls Tryd.prog 24 #[.int .u8 s[m].toNat] W _ := fun W => digitR_any s[m] W
      rw [inner_or] at hin
      cases hf : firstP s[m]
      · have hdg : digitP s[m] = true := by rw [hf] at hin; simpa using hin
        rw [hf] at cM
        rw [hdg] at cE
        clear hin hf hdg
        go_wp2_with fail
        refine (cM _).mono ?_
        rintro e w1 ⟨rfl, hw⟩
        subst hw
        go_wp2_with fail
        refine (cE _).mono ?_
        rintro e w1 ⟨rfl, hw⟩
        subst hw
        go_wp2
        go_round
        case rel => exact ⟨m + 1, by omega, hlt, by go_num, HN⟩
        case measure => simp [intOf]; omega
      · rw [hf] at cM
        clear hin hf
        go_wp2_with fail
        refine (cM _).mono ?_
        rintro e w1 ⟨rfl, hw⟩
        subst hw
        go_wp2
        go_round
        case rel => exact ⟨m + 1, by omega, hlt, by go_num, HN⟩
        case measure => simp [intOf]; omega
    · have HM : Hid (endOf innerP s.data.toList k = m) := by
        refine HE.out.symm.trans ?_
        apply endOf_no
        by_cases hlt : m < s.size
        · rw [atP_lt hlt]
          cases hin : innerP s[m]
          · rfl
          · exact absurd ⟨hlt, hin⟩ hgo
        · exact atP_ge hlt
      clear HE
      by_cases h64 : 64 < m - k
      · have HX : Hid (nameL s.data.toList k = none) := by
          show _ = _
          unfold nameL
          rw [HM.out, if_pos h64]
        have h64' : (64 : Int) < (m : Int) - (k : Int) := by omega
        by_cases hlt : m < s.size
        · have hin : innerP s[m] = false := by
            cases hin : innerP s[m]
            · rfl
            · exact absurd ⟨hlt, hin⟩ hgo
          rw [inner_or, Bool.or_eq_false_iff] at hin
          have cM : ∀ W, Calls Tryd.prog 26 #[.int .u8 s[m].toNat] W _ := fun W => letterR_any s[m] W
          have cE : ∀ W, Calls Tryd.prog 24 #[.int .u8 s[m].toNat] W _ := fun W => digitR_any s[m] W
          rw [hin.1] at cM
          rw [hin.2] at cE
          clear hin hgo h64
          go_wp2_with fail
          refine (cM _).mono ?_
          rintro e w1 ⟨rfl, hw⟩
          subst hw
          go_wp2_with fail
          refine (cE _).mono ?_
          rintro e w1 ⟨rfl, hw⟩
          subst hw
          go_wp2_with fail
          exact bodyPost_ret (v := .tuple #[.agg #[.int .i64 0, .string ⟨#[]⟩, .int .i64 0, .int .i64 k], .int .i64 (-1)]) (by simp [results, Tryd.results21, go_sem]) rfl ⟨by rw [HX.out]; exact ⟨_, _, _, rfl⟩, ((Below.refl _ _).alloc (Nat.le_refl _) _).alloc (by simp) _⟩
        · clear hgo h64
          go_wp2_with fail
          exact bodyPost_ret (v := .tuple #[.agg #[.int .i64 0, .string ⟨#[]⟩, .int .i64 0, .int .i64 k], .int .i64 (-1)]) (by simp [results, Tryd.results21, go_sem]) rfl ⟨by rw [HX.out]; exact ⟨_, _, _, rfl⟩, ((Below.refl _ _).alloc (Nat.le_refl _) _).alloc (by simp) _⟩
      · have HX : Hid (nameL s.data.toList k = some (kindOf (s.extract k m).toList, (s.extract k m).toList, 0, m)) := by
          show _ = _
          unfold nameL
          rw [HM.out, if_neg h64, extract_toList]
        have HT : Hid (∀ kd, kindOf (s.extract k m).toList = kd → TokR k (nameL s.data.toList k) (.returned (.tuple #[.agg #[.int .i64 kd, .string (s.extract k m), .int .i64 0, .int .i64 k], .int .i64 m]))) := by
          intro kd h
          rw [HX.out, h]
          show _ = _
          rw [mk_toList]
        have h64' : ¬ (64 : Int) < (m : Int) - (k : Int) := by omega
        by_cases hlt : m < s.size
        · have hin : innerP s[m] = false := by
            cases hin : innerP s[m]
            · rfl
            · exact absurd ⟨hlt, hin⟩ hgo
          rw [inner_or, Bool.or_eq_false_iff] at hin
          have cM : ∀ W, Calls Tryd.prog 26 #[.int .u8 s[m].toNat] W _ := fun W => letterR_any s[m] W
          have cE : ∀ W, Calls Tryd.prog 24 #[.int .u8 s[m].toNat] W _ := fun W => digitR_any s[m] W
          rw [hin.1] at cM
          rw [hin.2] at cE
          clear hin hgo h64
          go_wp2_with fail
          refine (cM _).mono ?_
          rintro e w1 ⟨rfl, hw⟩
          subst hw
          go_wp2_with fail
          refine (cE _).mono ?_
          rintro e w1 ⟨rfl, hw⟩
          subst hw
          go_wp2_with fail
          have hkm' : (k : Int) ≤ (m : Int) := by omega
          have hms' : (m : Int) ≤ (s.size : Int) := by omega
          have h0' : (0 : Int) ≤ (k : Int) := by omega
          have cR : ∀ W, Calls Tryd.prog 25 #[.string (s.extract k m)] W _ := fun W => reservedR_any (s.extract k m) W
          cases hwd : wordP (s.extract k m).toList
          · rw [hwd] at cR
            have HK := Lib.hid (HT.out _ (kindOf_name hwd))
            clear hwd
            go_region_held3 (fun _ => True) (trivial) (fail)
            generalize s.extract k m = sx at *
            go_wp2_with fail
            refine (cR _).mono ?_
            rintro e w1 ⟨rfl, hb⟩
            obtain ⟨⟨z0, z1, z2, z3⟩, ⟨t0, t1, t2, t3⟩, zf, tf, hbw⟩ := two_later (w := w) (w1 := w1) (z0 := .int .i64 0) (z1 := .string ⟨#[]⟩) (z2 := .int .i64 0) (z3 := .int .i64 0) (b0 := .int .i64 1) (b1 := .string sx) (b2 := .int .i64 0) (b3 := .int .i64 k) ⟨hb.os, hb.tape, hb.output, hb.size, hb.block⟩
            clear hb
            go_wp2_with fail
            generalize hWB : w1 = WB
            have y0 : WB.cell? ⟨w.heap.size, 0, none⟩ = some (.int .i64 0) := by rw [← hWB]; simp [go_sem, z0]
            have y1 : WB.cell? ⟨w.heap.size, 1, none⟩ = some (.string ⟨#[]⟩) := by rw [← hWB]; simp [go_sem, z1]
            have y2 : WB.cell? ⟨w.heap.size, 2, none⟩ = some (.int .i64 0) := by rw [← hWB]; simp [go_sem, z2]
            have y3 : WB.cell? ⟨w.heap.size, 3, none⟩ = some (.int .i64 0) := by rw [← hWB]; simp [go_sem, z3]
            have yb : Below w.heap.size w WB := by rw [← hWB]; exact hbw
            clear hWB
            generalize hWf : (((WB.setCell ⟨w.heap.size, 0, none⟩ (.int .i64 1)).setCell ⟨w.heap.size, 1, none⟩ (.string sx)).setCell ⟨w.heap.size, 2, none⟩ (.int .i64 0)).setCell ⟨w.heap.size, 3, none⟩ (.int .i64 k) = Wf
            obtain ⟨_, hw4, d0, d1, d2, d3⟩ := put4 w.heap.size WB _ _ _ _ Wf y0 y1 y2 y3 hWf
            clear hWf
            exact bodyPost_ret (v := .tuple #[.agg #[.int .i64 1, .string sx, .int .i64 0, .int .i64 k], .int .i64 (m)]) (by simp [results, Tryd.results21, go_sem, d0, d1, d2, d3]) rfl ⟨HK.out, hw4 _ _ (Nat.le_refl _) yb⟩
          · rw [hwd] at cR
            have HK := Lib.hid (HT.out _ (kindOf_word hwd))
            clear hwd
            go_region_held3 (fun _ => True) (trivial) (fail)
            generalize s.extract k m = sx at *
            go_wp2_with fail
            refine (cR _).mono ?_
            rintro e w1 ⟨rfl, hb⟩
            obtain ⟨⟨z0, z1, z2, z3⟩, ⟨t0, t1, t2, t3⟩, zf, tf, hbw⟩ := two_later (w := w) (w1 := w1) (z0 := .int .i64 0) (z1 := .string ⟨#[]⟩) (z2 := .int .i64 0) (z3 := .int .i64 0) (b0 := .int .i64 1) (b1 := .string sx) (b2 := .int .i64 0) (b3 := .int .i64 k) ⟨hb.os, hb.tape, hb.output, hb.size, hb.block⟩
            clear hb
            go_wp2_with fail
            generalize hWB : (w1.setCell ⟨w.heap.size + 1, 0, none⟩ (.int .i64 5)) = WB
            have y0 : WB.cell? ⟨w.heap.size, 0, none⟩ = some (.int .i64 0) := by rw [← hWB]; simp [go_sem, z0]
            have y1 : WB.cell? ⟨w.heap.size, 1, none⟩ = some (.string ⟨#[]⟩) := by rw [← hWB]; simp [go_sem, z1]
            have y2 : WB.cell? ⟨w.heap.size, 2, none⟩ = some (.int .i64 0) := by rw [← hWB]; simp [go_sem, z2]
            have y3 : WB.cell? ⟨w.heap.size, 3, none⟩ = some (.int .i64 0) := by rw [← hWB]; simp [go_sem, z3]
            have yb : Below w.heap.size w WB := by rw [← hWB]; exact hbw.setCell (p := ⟨w.heap.size + 1, 0, none⟩) (Nat.le_succ _) _
            clear hWB
            generalize hWf : (((WB.setCell ⟨w.heap.size, 0, none⟩ (.int .i64 5)).setCell ⟨w.heap.size, 1, none⟩ (.string sx)).setCell ⟨w.heap.size, 2, none⟩ (.int .i64 0)).setCell ⟨w.heap.size, 3, none⟩ (.int .i64 k) = Wf
            obtain ⟨_, hw4, d0, d1, d2, d3⟩ := put4 w.heap.size WB _ _ _ _ Wf y0 y1 y2 y3 hWf
            clear hWf
            exact bodyPost_ret (v := .tuple #[.agg #[.int .i64 5, .string sx, .int .i64 0, .int .i64 k], .int .i64 (m)]) (by simp [results, Tryd.results21, go_sem, d0, d1, d2, d3]) rfl ⟨HK.out, hw4 _ _ (Nat.le_refl _) yb⟩
        · clear hgo h64
          go_wp2_with fail
          have hkm' : (k : Int) ≤ (m : Int) := by omega
          have hms' : (m : Int) ≤ (s.size : Int) := by omega
          have h0' : (0 : Int) ≤ (k : Int) := by omega
          have cR : ∀ W, Calls Tryd.prog 25 #[.string (s.extract k m)] W _ := fun W => reservedR_any (s.extract k m) W
          cases hwd : wordP (s.extract k m).toList
          · rw [hwd] at cR
            have HK := Lib.hid (HT.out _ (kindOf_name hwd))
            clear hwd
            go_region_held3 (fun _ => True) (trivial) (fail)
            generalize s.extract k m = sx at *
            go_wp2_with fail
            refine (cR _).mono ?_
            rintro e w1 ⟨rfl, hb⟩
            obtain ⟨⟨z0, z1, z2, z3⟩, ⟨t0, t1, t2, t3⟩, zf, tf, hbw⟩ := two_later (w := w) (w1 := w1) (z0 := .int .i64 0) (z1 := .string ⟨#[]⟩) (z2 := .int .i64 0) (z3 := .int .i64 0) (b0 := .int .i64 1) (b1 := .string sx) (b2 := .int .i64 0) (b3 := .int .i64 k) ⟨hb.os, hb.tape, hb.output, hb.size, hb.block⟩
            clear hb
            go_wp2_with fail
            generalize hWB : w1 = WB
            have y0 : WB.cell? ⟨w.heap.size, 0, none⟩ = some (.int .i64 0) := by rw [← hWB]; simp [go_sem, z0]
            have y1 : WB.cell? ⟨w.heap.size, 1, none⟩ = some (.string ⟨#[]⟩) := by rw [← hWB]; simp [go_sem, z1]
            have y2 : WB.cell? ⟨w.heap.size, 2, none⟩ = some (.int .i64 0) := by rw [← hWB]; simp [go_sem, z2]
            have y3 : WB.cell? ⟨w.heap.size, 3, none⟩ = some (.int .i64 0) := by rw [← hWB]; simp [go_sem, z3]
            have yb : Below w.heap.size w WB := by rw [← hWB]; exact hbw
            clear hWB
            generalize hWf : (((WB.setCell ⟨w.heap.size, 0, none⟩ (.int .i64 1)).setCell ⟨w.heap.size, 1, none⟩ (.string sx)).setCell ⟨w.heap.size, 2, none⟩ (.int .i64 0)).setCell ⟨w.heap.size, 3, none⟩ (.int .i64 k) = Wf
            obtain ⟨_, hw4, d0, d1, d2, d3⟩ := put4 w.heap.size WB _ _ _ _ Wf y0 y1 y2 y3 hWf
            clear hWf
            exact bodyPost_ret (v := .tuple #[.agg #[.int .i64 1, .string sx, .int .i64 0, .int .i64 k], .int .i64 (m)]) (by simp [results, Tryd.results21, go_sem, d0, d1, d2, d3]) rfl ⟨HK.out, hw4 _ _ (Nat.le_refl _) yb⟩
          · rw [hwd] at cR
            have HK := Lib.hid (HT.out _ (kindOf_word hwd))
            clear hwd
            go_region_held3 (fun _ => True) (trivial) (fail)
            generalize s.extract k m = sx at *
            go_wp2_with fail
            refine (cR _).mono ?_
            rintro e w1 ⟨rfl, hb⟩
            obtain ⟨⟨z0, z1, z2, z3⟩, ⟨t0, t1, t2, t3⟩, zf, tf, hbw⟩ := two_later (w := w) (w1 := w1) (z0 := .int .i64 0) (z1 := .string ⟨#[]⟩) (z2 := .int .i64 0) (z3 := .int .i64 0) (b0 := .int .i64 1) (b1 := .string sx) (b2 := .int .i64 0) (b3 := .int .i64 k) ⟨hb.os, hb.tape, hb.output, hb.size, hb.block⟩
            clear hb
            go_wp2_with fail
            generalize hWB : (w1.setCell ⟨w.heap.size + 1, 0, none⟩ (.int .i64 5)) = WB
            have y0 : WB.cell? ⟨w.heap.size, 0, none⟩ = some (.int .i64 0) := by rw [← hWB]; simp [go_sem, z0]
            have y1 : WB.cell? ⟨w.heap.size, 1, none⟩ = some (.string ⟨#[]⟩) := by rw [← hWB]; simp [go_sem, z1]
            have y2 : WB.cell? ⟨w.heap.size, 2, none⟩ = some (.int .i64 0) := by rw [← hWB]; simp [go_sem, z2]
            have y3 : WB.cell? ⟨w.heap.size, 3, none⟩ = some (.int .i64 0) := by rw [← hWB]; simp [go_sem, z3]
            have yb : Below w.heap.size w WB := by rw [← hWB]; exact hbw.setCell (p := ⟨w.heap.size + 1, 0, none⟩) (Nat.le_succ _) _
            clear hWB
            generalize hWf : (((WB.setCell ⟨w.heap.size, 0, none⟩ (.int .i64 5)).setCell ⟨w.heap.size, 1, none⟩ (.string sx)).setCell ⟨w.heap.size, 2, none⟩ (.int .i64 0)).setCell ⟨w.heap.size, 3, none⟩ (.int .i64 k) = Wf
            obtain ⟨_, hw4, d0, d1, d2, d3⟩ := put4 w.heap.size WB _ _ _ _ Wf y0 y1 y2 y3 hWf
            clear hWf
            exact bodyPost_ret (v := .tuple #[.agg #[.int .i64 5, .string sx, .int .i64 0, .int .i64 k], .int .i64 (m)]) (by simp [results, Tryd.results21, go_sem, d0, d1, d2, d3]) rfl ⟨HK.out, hw4 _ _ (Nat.le_refl _) yb⟩

theorem tokenR_any (s : ByteArray) (hs : s.size ≤ 65536) (k : Nat) (hk : k < s.size) (w : World) :
    Calls Tryd.prog 21 #[.string s, .int .i64 k] w fun e w' => TokR k (tokL s.data.toList k) e ∧ Below w.heap.size w w' := by
  unfold tokL
  rw [atP_lt hk, atP_lt hk, atP_lt hk]
  cases hf : firstP s[k]
  · rw [if_neg (by decide)]
    cases hd : digitP s[k]
    · rw [if_neg (by decide)]
      cases hq : quoteP s[k]
      · rw [if_neg (by decide)]; exact tokR_mark s hs k hk hf hd hq w
      · rw [if_pos rfl]; exact tokR_text s hs k hk hf hd hq w
    · rw [if_pos rfl]; exact tokR_num s hs k hk hf hd w
  · rw [if_pos rfl]; exact tokR_name s hs k hk hf w

end Go.Proofs.YthggaojpkfdggaaDoor
