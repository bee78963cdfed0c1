/- The document's Sound. -/
import Derived.Test.YtbejkphekfbfnaaGreatDcK
namespace Go.Proofs.YtbejkphekfbfnaaGreat
open Go.RowKit
attribute [local go_sem ↓] Go.wp_at_zero Go.wp_at_succ

def SoO (ds : List Dc) (w : World) (e : Ending) (w' : World) : Prop := e = .returned (.int .i64 (errP ds)) ∧ Below w.heap.size w w'
theorem SoO.of {ds : List Dc} {w w' : World} {x : Int} (h : errP ds = x) (hb : Below w.heap.size w w') : SoO ds w (.returned (.int .i64 x)) w' := ⟨by rw [h], hb⟩
theorem pre_succ {α : Type} {l : List α} {p : Nat → α → Prop} {j : Nat} {x : α} (hx : l[j]? = some x) (h : ∀ (i : Nat) y, i < j → l[i]? = some y → p i y) (hp : p j x) : ∀ (i : Nat) y, i < j + 1 → l[i]? = some y → p i y := fun i y hi hy => by
  rcases Nat.lt_or_ge i j with h1 | h1
  · exact h i y h1 hy
  · have : i = j := by omega
    subst this
    rw [hx] at hy
    cases hy
    exact hp
theorem pre_all {l : List Dc} {p : Dc → Bool} (h : ∀ (i : Nat) y, i < l.length → l[i]? = some y → p y = true) : l.all p = true := by
  rw [List.all_eq_true]
  intro x hx
  obtain ⟨k, hk⟩ := List.getElem?_of_mem hx
  exact h k x (get_lt5 hk) hk
theorem basic_pos (s : List UInt8) : decide (basicP s > 0) = !(kindP s == 4) := by
  rw [← basic_kind]
  unfold basicP
  split
  · rfl
  · split
    · rfl
    · split <;> rfl
theorem free_eq (s : List UInt8) : freeP s = (nameP s && !decide (basicP s > 0)) := by
  rw [basic_pos, freeP, Bool.not_not, Bool.and_comm]
theorem head_bad {d : Dc} (h : freeP d.name = false) : dsP d = false := by unfold dsP; rw [h]; rfl
theorem ifc_bad {d : Dc} (h1 : d.ifc = true) (h2 : 0 < d.fs.length) : dsP d = false := by
  have : ((d.fs.length : Int) == 0) = false := by rw [beq_eq_false_iff_ne]; omega
  unfold dsP; rw [h1, this]; simp
theorem ds_good {d : Dc} (h : freeP d.name = true) (h1 : (!d.ifc || ((d.fs.length : Int) == 0)) = true) (h2 : (d.fs.all memP && d.ms.all metP) = true) : dsP d = true := by
  unfold dsP; rw [h, h1, h2]; rfl
theorem nameD_any (n : List UInt8) (h : n.length ≤ maxLen) (w : World) : Calls Tryz.prog 43 #[.string ⟨n.toArray⟩] w (OutB (nameP n) w) := by
  have := nmR_any ⟨n.toArray⟩ (by simpa [ByteArray.size] using h) w
  exact this
set_option maxRecDepth 20000 in
set_option maxHeartbeats 16000000 in
theorem rtable_any (ds : List Dc) (sl : Value) (w : World) (hL : DL w ds sl) : Calls Tryz.prog 18 #[sl] w (SoO ds w) := by
  obtain ⟨ao, cap, rfl⟩ := hL.slice
  by_cases hl : 1024 < ds.length
  · have HE : Hid (errP ds = 4) := err_len hl
    have f0 : decide ((ds.length : Int) > 1024) = true := by simp; omega
    clear hL
    go_enter Tryz.func18, Tryz.ntmps18
    go_wp2
    go_ret
    exact SoO.of HE.out (Below.refl _ _)
  have f0 : decide ((ds.length : Int) > 1024) = false := by simp; omega
  have hn : ds.length ≤ 1024 := by omega
  have HL := Lib.hid hL
  clear hL hl
  go_enter Tryz.func18, Tryz.ntmps18
  go_wp2_with fail
  go_loopw [3] (fun v wr => ∃ j : Nat, j ≤ ds.length ∧ v = .int .i64 j ∧ w = wr ∧ Hid (∀ (i : Nat) d, i < j → ds[i]? = some d → smallP d = true)) (fun v _ => ds.length - (intOf v).toNat)
  case atStart => exact ⟨0, Nat.zero_le _, rfl, rfl, fun i d hi => by omega⟩
  case round =>
    obtain ⟨j, hj, rfl, rfl, HA⟩ := hrel
    by_cases hlt : j < ds.length
    · obtain ⟨⟨nm, ifc, fs, ms⟩, hd⟩ : ∃ d, ds[j]? = some d := ⟨_, List.getElem?_eq_getElem hlt⟩
      obtain ⟨ao', c', e, hat⟩ := HL.out
      cases e
      obtain ⟨g, o, s1, s2, hao, hgl, x0, x1, x2, x3, hF1, hF2, hml⟩ := hat j _ hd
      subst hao
      obtain ⟨a1, c1, rfl⟩ := hF1.slice
      obtain ⟨a2, c2, rfl⟩ := hF2.slice
      have HD := Lib.hid hd
      clear hat hd hF1 hF2 hml x0 x1
      by_cases k1 : fs.length ≤ 64
      · have b1 : decide ((fs.length : Int) > 64) = false := by simp; omega
        by_cases k2 : ms.length ≤ 64
        · have b2 : decide ((ms.length : Int) > 64) = false := by simp; omega
          have HN : Hid (∀ (i : Nat) d, i < j + 1 → ds[i]? = some d → smallP d = true) := pre_succ (p := fun _ d => smallP d = true) HD.out HA.out (by simp only [smallP, Bool.and_eq_true, decide_eq_true_eq]; omega)
          go_wp2
          go_roundw
          case rel => exact ⟨j + 1, by omega, by go_num, trivial, HN⟩
          case measure => simp [intOf]; omega
        · have b2 : decide ((ms.length : Int) > 64) = true := by simp; omega
          have HE : Hid (errP ds = 4) := err_small hn (List.mem_of_getElem? HD.out) (by simp only [smallP]; rw [Bool.and_eq_false_iff]; right; simp; omega)
          go_wp2
          go_ret
          exact SoO.of HE.out (Below.refl _ _)
      · have b1 : decide ((fs.length : Int) > 64) = true := by simp; omega
        have HE : Hid (errP ds = 4) := err_small hn (List.mem_of_getElem? HD.out) (by simp only [smallP]; rw [Bool.and_eq_false_iff]; left; simp; omega)
        go_wp2
        go_ret
        exact SoO.of HE.out (Below.refl _ _)
    · have HS : Hid (ds.all smallP = true) := pre_all fun i y hi => HA.out i y (by omega)
      clear HA
      obtain rfl : j = ds.length := by omega
      go_wp2_with fail
      go_loopw [4] (fun v wr => ∃ j : Nat, j ≤ ds.length ∧ v = .int .i64 j ∧ Hid (Below w.heap.size w wr) ∧ Hid (∀ (i : Nat) d, i < j → ds[i]? = some d → dsP d = true)) (fun v _ => ds.length - (intOf v).toNat)
      case atStart => exact ⟨0, Nat.zero_le _, rfl, Below.refl _ _, fun i d hi => by omega⟩
      case round =>
        obtain ⟨j, hj, rfl, HB, HA⟩ := hrel
        by_cases hlt : j < ds.length
        · obtain ⟨⟨nm, ifc, fs, ms⟩, hd⟩ : ∃ d, ds[j]? = some d := ⟨_, List.getElem?_eq_getElem hlt⟩
          obtain ⟨ao', c', e, hat⟩ := HL.out.later HB.out
          cases e
          obtain ⟨g, o, s1, s2, hao, hgl, x0, x1, x2, x3, hF1, hF2, hml⟩ := hat j _ hd
          subst hao
          obtain ⟨a1, c1, rfl⟩ := hF1.slice
          obtain ⟨a2, c2, rfl⟩ := hF2.slice
          have HD := Lib.hid hd
          have hz := HB.out.size
          obtain ⟨q1, q2⟩ := small_len HS.out (List.mem_of_getElem? hd)
          simp only at q1 q2 hml x0 x1 x2 x3
          have HF1 := Lib.hid hF1
          have HF2 := Lib.hid hF2
          have hX0 := Hb.start (w := wr) (cs := #[.string ⟨nm.toArray⟩, .bool ifc, .slice a1 fs.length c1, .slice a2 ms.length c2]) (T := 60)
          have cN := nameD_any nm hml (wr.alloc (.cells #[.string ⟨nm.toArray⟩, .bool ifc, .slice a1 fs.length c1, .slice a2 ms.length c2] 60))
          clear hat hd hF1 hF2 hml
          have hfr : freeP nm = (nameP nm && !decide (basicP nm > 0)) := free_eq nm
          cases hN : nameP nm with
          | false =>
            rw [hN] at cN
            have HE : Hid (errP ds = 2) := err_form hn HS.out (List.mem_of_getElem? HD.out) (head_bad (by show freeP nm = false; rw [hfr, hN]; rfl))
            clear hfr hN
            go_wp2_with fail
            refine cN.mono ?_
            rintro e w1 ⟨rfl, hb1⟩
            have hX := hX0.next hb1
            have HB1 := Lib.hid (HB.out.trans (hX.out.mono hz))
            clear cN hb1 hX0
            go_wp2
            go_ret
            exact SoO.of HE.out HB1.out
          | true =>
            rw [hN] at cN
            rw [hN, Bool.true_and] at hfr
            clear hN
            cases hP : decide (basicP nm > 0) with
            | true =>
              have HE : Hid (errP ds = 2) := err_form hn HS.out (List.mem_of_getElem? HD.out) (head_bad (by show freeP nm = false; rw [hfr, hP]; rfl))
              clear hfr
              go_wp2_with fail
              refine cN.mono ?_
              rintro e w1 ⟨rfl, hb1⟩
              have hX := hX0.next hb1
              have y0 := hX.cell 0 rfl
              have cB := basic_any nm w1
              have HB1 := Lib.hid (HB.out.trans (hX.out.mono hz))
              clear cN hb1 hX0
              generalize basicP nm = bp at *
              go_wp2_with fail
              refine cB.mono ?_
              rintro e w2 ⟨rfl, hw2⟩
              subst hw2
              clear cB
              go_wp2
              go_ret
              exact SoO.of HE.out HB1.out
            | false =>
              have HFR : Hid (freeP nm = true) := by rw [Hid, hfr, hP]; rfl
              clear hfr
              have hway : (ifc = true ∧ 0 < fs.length) ∨ (ifc = true ∧ ¬ 0 < fs.length) ∨ ifc = false := by
                cases ifc
                · exact .inr (.inr rfl)
                · by_cases h : 0 < fs.length
                  · exact .inl ⟨rfl, h⟩
                  · exact .inr (.inl ⟨rfl, h⟩)
              rcases hway with ⟨rfl, b0⟩ | hway
              · have HE : Hid (errP ds = 2) := err_form hn HS.out (List.mem_of_getElem? HD.out) (ifc_bad rfl b0)
                go_wp2_with fail
                refine cN.mono ?_
                rintro e w1 ⟨rfl, hb1⟩
                have hX := hX0.next hb1
                have y0 := hX.cell 0 rfl
                have y1 := hX.cell 1 rfl
                have y2 := hX.cell 2 rfl
                have cB := basic_any nm w1
                have HB1 := Lib.hid (HB.out.trans (hX.out.mono hz))
                clear cN hb1 hX0
                generalize basicP nm = bp at *
                go_wp2_with fail
                refine cB.mono ?_
                rintro e w2 ⟨rfl, hw2⟩
                subst hw2
                clear cB
                go_wp2
                go_ret
                exact SoO.of HE.out HB1.out
              · have HI : Hid ((!ifc || ((fs.length : Int) == 0)) = true) := by
                  rcases hway with ⟨rfl, b0⟩ | rfl
                  · have : fs.length = 0 := by omega
                    rw [Hid, this]; rfl
                  · rfl
                have HCM : Hid (∀ W, Hb wr #[.string ⟨nm.toArray⟩, .bool ifc, .slice a1 fs.length c1, .slice a2 ms.length c2] 60 W → Calls Tryz.prog 45 #[.agg #[.string ⟨nm.toArray⟩, .bool ifc, .slice a1 fs.length c1, .slice a2 ms.length c2]] W fun e w' => ∃ v, e = .returned v ∧ Below W.heap.size W w' ∧ FL w' (fs ++ ms) v) := fun W hX => rmembers_any nm ifc fs ms a1 a2 c1 c2 W (HF1.out.later hX.out) (HF2.out.later hX.out) (by omega) (by omega)
                have HG : Hid (∀ (k : Nat) f, (fs ++ ms)[k]? = some f → okM fs.length k f = false → errP ds = 2) := fun k f h hb => err_form hn HS.out (List.mem_of_getElem? HD.out) (mem_bad (d := ⟨nm, ifc, fs, ms⟩) h hb)
                have HDG : Hid ((∀ (k : Nat) f, (fs ++ ms)[k]? = some f → okM fs.length k f = true) → ∀ (i : Nat) d, i < j + 1 → ds[i]? = some d → dsP d = true) := fun h => pre_succ (p := fun _ d => dsP d = true) HD.out HA.out (ds_good (d := ⟨nm, ifc, fs, ms⟩) HFR.out HI.out (mem_good (d := ⟨nm, ifc, fs, ms⟩) h))
                have HLn : Hid ((fs ++ ms).length ≤ 128) := by rw [Hid, List.length_append]; omega
                generalize hLs : fs ++ ms = Ls at *
                clear hLs HI HFR HF1 HF2 HA HD
                rcases hway with ⟨rfl, b0⟩ | rfl
                all_goals
                  go_wp2_with fail
                  refine cN.mono ?_
                  rintro e w1 ⟨rfl, hb1⟩
                  have hX := hX0.next hb1
                  have y0 := hX.cell 0 rfl
                  have y1 := hX.cell 1 rfl
                  have y2 := hX.cell 2 rfl
                  have y3 := hX.cell 3 rfl
                  have cB := basic_any nm w1
                  clear cN hb1 hX0
                  generalize basicP nm = bp at *
                  go_wp2_with fail
                  refine cB.mono ?_
                  rintro e w2 ⟨rfl, hw2⟩
                  subst hw2
                  clear cB
                  have cM := HCM.out w2 hX
                  go_wp2_with fail
                  refine cM.mono ?_
                  rintro e w3 ⟨v3, rfl, hb3, hF3⟩
                  obtain ⟨a3, c3, rfl⟩ := hF3.slice
                  have hX3 := hX.next hb3
                  have HF3 := Lib.hid hF3
                  have hln := HLn.out
                  clear cM hb3 hF3 y0 y1 y2 y3 hP x0 x1 x2 x3 hX HCM
                  have HB3 := Lib.hid (HB.out.trans (hX3.out.mono hz))
                  clear HB
                  obtain ⟨W0, hW0⟩ : ∃ W0, W0 = wr := ⟨_, rfl⟩
                  subst hW0
                  go_wp2_with fail
                  go_loopw [7] (fun v wr => ∃ k : Nat, k ≤ Ls.length ∧ v = .int .i64 k ∧ Hid (Below w3.heap.size w3 wr) ∧ Hid (∀ (i : Nat) f, i < k → Ls[i]? = some f → okM fs.length i f = true)) (fun v _ => Ls.length - (intOf v).toNat)
                  case atStart => exact ⟨0, Nat.zero_le _, rfl, Below.refl _ _, fun i f hi => by omega⟩
                  case round =>
                    obtain ⟨k, hk, rfl, HQ, HO⟩ := hrel
                    have hX4 := hX3.next HQ.out
                    by_cases hkl : k < Ls.length
                    · obtain ⟨⟨fn, kd, tx, nu, ks⟩, hf⟩ : ∃ f, Ls[k]? = some f := ⟨_, List.getElem?_eq_getElem hkl⟩
                      obtain ⟨ao', c', e, hat⟩ := HF3.out.later HQ.out
                      cases e
                      obtain ⟨g3, o3, s3, hao, hgl3, z0, z1, z2, z3, z4, hT, hml⟩ := hat k _ hf
                      subst hao
                      obtain ⟨a4, c4, rfl⟩ := hT.slice
                      simp only [Tr.kind, Tr.text, Tr.num] at z0 z1 z2 z3 z4 hml
                      have HGk := Lib.hid (HG.out k _ hf)
                      have HOk := Lib.hid (fun h => pre_succ (p := fun i f => okM fs.length i f = true) hf HO.out h)
                      have hT0 := Hb.start (w := wr) (cs := #[.int .i64 kd, .string ⟨tx.toArray⟩, .int .i64 nu, .slice a4 ks.length c4]) (T := 27)
                      have cN2 := nameD_any fn hml (wr.alloc (.cells #[.int .i64 kd, .string ⟨tx.toArray⟩, .int .i64 nu, .slice a4 ks.length c4] 27))
                      have HT := Lib.hid hT
                      have hz3 := HB3.out.size
                      have hzq := HQ.out.size
                      clear hat hT hf HG HO
                      have HBq := Lib.hid (HB3.out.trans (HQ.out.mono hz3))
                      have hzw := HBq.out.size
                      have HM : Hid (okM fs.length k (fn, .mk kd tx nu ks) = (((nameP fn && soundP (.mk kd tx nu ks)) && !(kd == 8)) && !(decide ((fs.length : Int) ≤ k) && !(kd == 7)))) := rfl
                      have HSd : Hid (∀ W, Hb wr #[.int .i64 kd, .string ⟨tx.toArray⟩, .int .i64 nu, .slice a4 ks.length c4] 27 W → Calls Tryz.prog 38 #[.agg #[.int .i64 kd, .string ⟨tx.toArray⟩, .int .i64 nu, .slice a4 ks.length c4]] W (OutB (soundP (.mk kd tx nu ks)) W)) := fun W hh => rsound_any kd tx nu ks a4 c4 W (HT.out.later hh.out)
                      clear HT
                      generalize nameP fn = b1 at *
                      generalize soundP (.mk kd tx nu ks) = b2 at *
                      cases b1 with
                      | false =>
                        have HE : Hid (errP ds = 2) := HGk.out (by rw [HM.out]; rfl)
                        go_wp2_with fail
                        refine cN2.mono ?_
                        rintro e w5 ⟨rfl, hb5⟩
                        have hT5 := hT0.next hb5
                        have HB5 := Lib.hid (HBq.out.trans (hT5.out.mono hzw))
                        clear cN2 hb5 hT0
                        go_wp2
                        go_ret
                        exact SoO.of HE.out HB5.out
                      | true =>
                        cases b2 with
                        | false =>
                          have HE : Hid (errP ds = 2) := HGk.out (by rw [HM.out]; rfl)
                          go_wp2_with fail
                          refine cN2.mono ?_
                          rintro e w5 ⟨rfl, hb5⟩
                          have hT5 := hT0.next hb5
                          have t0 := hT5.cell 0 rfl
                          have t1 := hT5.cell 1 rfl
                          have t2 := hT5.cell 2 rfl
                          have t3 := hT5.cell 3 rfl
                          have cS := HSd.out w5 hT5
                          clear cN2 hb5 hT0
                          go_wp2_with fail
                          refine cS.mono ?_
                          rintro e w6 ⟨rfl, hb6⟩
                          have hT6 := hT5.next hb6
                          have HB6 := Lib.hid (HBq.out.trans (hT6.out.mono hzw))
                          clear cS hb6 hT5 t0 t1 t2 t3
                          go_wp2
                          go_ret
                          exact SoO.of HE.out HB6.out
                        | true =>
                          have hways : kd = 8 ∨ (kd ≠ 8 ∧ fs.length ≤ k ∧ kd ≠ 7) ∨ (kd ≠ 8 ∧ fs.length ≤ k ∧ kd = 7) ∨ (kd ≠ 8 ∧ ¬ fs.length ≤ k) := by omega
                          rcases hways with rfl | ⟨h8, hkn, h7⟩ | ⟨h8, hkn, rfl⟩ | ⟨h8, hkn⟩
                          · have HE : Hid (errP ds = 2) := HGk.out (by rw [HM.out]; simp)
                            go_wp2_with fail
                            refine cN2.mono ?_
                            rintro e w5 ⟨rfl, hb5⟩
                            have hT5 := hT0.next hb5
                            have t0 := hT5.cell 0 rfl
                            have t1 := hT5.cell 1 rfl
                            have t2 := hT5.cell 2 rfl
                            have t3 := hT5.cell 3 rfl
                            have cS := HSd.out w5 hT5
                            clear cN2 hb5 hT0
                            go_wp2_with fail
                            refine cS.mono ?_
                            rintro e w6 ⟨rfl, hb6⟩
                            have hT6 := hT5.next hb6
                            have HB6 := Lib.hid (HBq.out.trans (hT6.out.mono hzw))
                            have HQ6 := Lib.hid (HQ.out.trans (hT6.out.mono hzq))
                            have v0 := hT6.cell 0 rfl
                            have y2 := (hX4.next hT6.out).cell 2 rfl
                            clear cS hb6 hT5 t0 t1 t2 t3
                            go_wp2
                            go_ret
                            exact SoO.of HE.out HB6.out
                          · have HE : Hid (errP ds = 2) := HGk.out (by rw [HM.out, show (kd == 8) = false from beq_eq_false_iff_ne.2 h8, show (kd == 7) = false from beq_eq_false_iff_ne.2 h7, decide_eq_true (by omega : (fs.length : Int) ≤ k)]; rfl)
                            have e8 : (kd == 8) = false := beq_eq_false_iff_ne.2 h8
                            have e7 : (kd != 7) = true := by simpa using h7
                            go_wp2_with fail
                            refine cN2.mono ?_
                            rintro e w5 ⟨rfl, hb5⟩
                            have hT5 := hT0.next hb5
                            have t0 := hT5.cell 0 rfl
                            have t1 := hT5.cell 1 rfl
                            have t2 := hT5.cell 2 rfl
                            have t3 := hT5.cell 3 rfl
                            have cS := HSd.out w5 hT5
                            clear cN2 hb5 hT0
                            go_wp2_with fail
                            refine cS.mono ?_
                            rintro e w6 ⟨rfl, hb6⟩
                            have hT6 := hT5.next hb6
                            have HB6 := Lib.hid (HBq.out.trans (hT6.out.mono hzw))
                            have HQ6 := Lib.hid (HQ.out.trans (hT6.out.mono hzq))
                            have v0 := hT6.cell 0 rfl
                            have y2 := (hX4.next hT6.out).cell 2 rfl
                            clear cS hb6 hT5 t0 t1 t2 t3
                            go_wp2
                            go_ret
                            exact SoO.of HE.out HB6.out
                          · have HN := Lib.hid (HOk.out (by rw [HM.out]; simp))
                            go_wp2_with fail
                            refine cN2.mono ?_
                            rintro e w5 ⟨rfl, hb5⟩
                            have hT5 := hT0.next hb5
                            have t0 := hT5.cell 0 rfl
                            have t1 := hT5.cell 1 rfl
                            have t2 := hT5.cell 2 rfl
                            have t3 := hT5.cell 3 rfl
                            have cS := HSd.out w5 hT5
                            clear cN2 hb5 hT0
                            go_wp2_with fail
                            refine cS.mono ?_
                            rintro e w6 ⟨rfl, hb6⟩
                            have hT6 := hT5.next hb6
                            have HB6 := Lib.hid (HBq.out.trans (hT6.out.mono hzw))
                            have HQ6 := Lib.hid (HQ.out.trans (hT6.out.mono hzq))
                            have v0 := hT6.cell 0 rfl
                            have y2 := (hX4.next hT6.out).cell 2 rfl
                            clear cS hb6 hT5 t0 t1 t2 t3
                            go_wp2
                            go_roundw
                            case rel => exact ⟨k + 1, by omega, by go_num, HQ6, HN⟩
                            case measure => simp [intOf]; omega
                          · have HN := Lib.hid (HOk.out (by rw [HM.out, show (kd == 8) = false from beq_eq_false_iff_ne.2 h8, decide_eq_false (by omega : ¬ (fs.length : Int) ≤ k)]; rfl))
                            have e8 : (kd == 8) = false := beq_eq_false_iff_ne.2 h8
                            try (exfalso; omega)
                            all_goals
                              go_wp2_with fail
                              refine cN2.mono ?_
                              rintro e w5 ⟨rfl, hb5⟩
                              have hT5 := hT0.next hb5
                              have t0 := hT5.cell 0 rfl
                              have t1 := hT5.cell 1 rfl
                              have t2 := hT5.cell 2 rfl
                              have t3 := hT5.cell 3 rfl
                              have cS := HSd.out w5 hT5
                              clear cN2 hb5 hT0
                              go_wp2_with fail
                              refine cS.mono ?_
                              rintro e w6 ⟨rfl, hb6⟩
                              have hT6 := hT5.next hb6
                              have HB6 := Lib.hid (HBq.out.trans (hT6.out.mono hzw))
                              have HQ6 := Lib.hid (HQ.out.trans (hT6.out.mono hzq))
                              have v0 := hT6.cell 0 rfl
                              have y2 := (hX4.next hT6.out).cell 2 rfl
                              clear cS hb6 hT5 t0 t1 t2 t3
                              go_wp2
                              go_roundw
                              case rel => exact ⟨k + 1, by omega, by go_num, HQ6, HN⟩
                              case measure => simp [intOf]; omega
                    · obtain rfl : k = Ls.length := by omega
                      have HN := Lib.hid (HDG.out fun i f hf => HO.out i f (get_lt5 hf) hf)
                      have HB7 := Lib.hid (HB3.out.trans (HQ.out.mono HB3.out.size))
                      clear HO HG HDG
                      go_wp2
                      go_roundw
                      case rel => exact ⟨j + 1, by omega, by go_num, HB7, HN⟩
                      case measure => simp [intOf]; omega
        · have HF : Hid (ds.all dsP = true) := pre_all fun i y hi => HA.out i y (by omega)
          clear HA
          obtain rfl : j = ds.length := by omega
          go_wp2_with fail
          go_loopw [9] (fun v wr => ∃ j : Nat, j ≤ ds.length ∧ v = .int .i64 j ∧ Hid (Below w.heap.size w wr) ∧ Hid (∀ (i : Nat) d, i < j → ds[i]? = some d → (i : Int) ≤ fiP ds d.name ∧ fitP ds d = true)) (fun v _ => ds.length - (intOf v).toNat)
          case atStart => exact ⟨0, Nat.zero_le _, rfl, HB, fun i d hi => by omega⟩
          case round =>
            clear HB
            obtain ⟨j, hj, rfl, HB, HA⟩ := hrel
            by_cases hlt : j < ds.length
            · obtain ⟨⟨nm, ifc, fs, ms⟩, hd⟩ : ∃ d, ds[j]? = some d := ⟨_, List.getElem?_eq_getElem hlt⟩
              have cF := rfind_any ds _ nm wr (by omega) (HL.out.later HB.out)
              obtain ⟨ao', c', e, hat⟩ := HL.out.later HB.out
              cases e
              obtain ⟨g, o, s1, s2, hao, hgl, x0, x1, x2, x3, hF1, hF2, hml⟩ := hat j _ hd
              subst hao
              obtain ⟨a1, c1, rfl⟩ := hF1.slice
              obtain ⟨a2, c2, rfl⟩ := hF2.slice
              have HD := Lib.hid hd
              have hz := HB.out.size
              have hmd := List.mem_of_getElem? hd
              have HP : Hid (dsP ⟨nm, ifc, fs, ms⟩ = true) := List.all_eq_true.1 HF.out _ hmd
              obtain ⟨q1, q2⟩ := small_len HS.out hmd
              simp only at q1 q2 hml x0 x1 x2 x3
              have cM := rmembers_any nm ifc fs ms a1 a2 c1 c2 wr hF1 hF2 (by omega) (by omega)
              have HG1 : Hid (∀ (k : Nat) f, (fs ++ ms)[k]? = some f → okT ds fs.length k f = false → errP ds = 5) := fun k f h hb => err_fit hn HS.out HF.out hmd (fit_type (d := ⟨nm, ifc, fs, ms⟩) HP.out h hb)
              have HG2 : Hid (∀ (i k : Nat) f f', i < k → (fs ++ ms)[i]? = some f → (fs ++ ms)[k]? = some f' → f.1 = f'.1 → errP ds = 5) := fun i k f f' h h1 h2 he => err_fit hn HS.out HF.out hmd (fit_name (d := ⟨nm, ifc, fs, ms⟩) h h1 h2 he)
              have HG3 : Hid (∀ (k : Nat) f, (fs ++ ms)[k]? = some f → cntN f.2 ≤ 20000) := fun k f h => (mem_form (d := ⟨nm, ifc, fs, ms⟩) HP.out h).2.2
              have HG4 : Hid (fiP ds nm < j → errP ds = 5) := fun h => err_name hn HS.out HF.out (find_twice (d := ⟨nm, ifc, fs, ms⟩) HD.out h)
              have HDG : Hid ((j : Int) ≤ fiP ds nm → (∀ (k : Nat) f, k < (fs ++ ms).length → (fs ++ ms)[k]? = some f → okT ds fs.length k f = true ∧ ∀ (i : Nat) f', i < k → (fs ++ ms)[i]? = some f' → f'.1 ≠ f.1) → ∀ (i : Nat) d, i < j + 1 → ds[i]? = some d → (i : Int) ≤ fiP ds d.name ∧ fitP ds d = true) := fun h0 h => pre_succ (p := fun i d => (i : Int) ≤ fiP ds d.name ∧ fitP ds d = true) HD.out HA.out ⟨h0, fit_good (d := ⟨nm, ifc, fs, ms⟩) HP.out (fun i k f f' hik h1 h2 => (h k f' (get_lt5 h2) h2).2 i f hik h1) (fun k f h1 => (h k f (get_lt5 h1) h1).1)⟩
              have HLn : Hid ((fs ++ ms).length ≤ 128) := by rw [Hid, List.length_append]; omega
              generalize hLs : fs ++ ms = Ls at *
              generalize fiP ds nm = fi at *
              clear hLs hat hd hF1 hF2 hml HA HD hmd HP
              by_cases hfi : fi < j
              · have HE := Lib.hid (HG4.out hfi)
                have f4 : decide (fi < (j : Int)) = true := by simpa using hfi
                clear cM
                go_wp2_with fail
                refine cF.mono ?_
                rintro e w1 ⟨rfl, hw1⟩
                subst hw1
                clear cF
                go_wp2
                go_ret
                exact SoO.of HE.out HB.out
              · have f4 : decide (fi < (j : Int)) = false := by simpa using hfi
                have H0 : Hid ((j : Int) ≤ fi) := by rw [Hid]; omega
                go_wp2_with fail
                refine cF.mono ?_
                rintro e w1 ⟨rfl, hw1⟩
                subst hw1
                clear cF
                go_wp2_with fail
                refine cM.mono ?_
                rintro e w2 ⟨v2, rfl, hb2, hF2⟩
                obtain ⟨a3, c3, rfl⟩ := hF2.slice
                have HF2 := Lib.hid hF2
                have hln := HLn.out
                have HB2 := Lib.hid (HB.out.trans (hb2.mono hz))
                have hz2 := HB2.out.size
                have d2 := (hb2.cell (p := ⟨g, _, none⟩) hgl).trans x2
                have hgl2 := Nat.lt_of_lt_of_le hgl hb2.size
                clear cM hF2 x0 x1 x2 x3 HB hb2
                go_wp2_with fail
                go_loopw [11] (fun v wr => ∃ k : Nat, k ≤ Ls.length ∧ v = .int .i64 k ∧ Hid (Below w2.heap.size w2 wr) ∧ Hid (∀ (i : Nat) f, i < k → Ls[i]? = some f → okT ds fs.length i f = true ∧ ∀ (i' : Nat) f', i' < i → Ls[i']? = some f' → f'.1 ≠ f.1)) (fun v _ => Ls.length - (intOf v).toNat)
                case atStart => exact ⟨0, Nat.zero_le _, rfl, Below.refl _ _, fun i f hi => by omega⟩
                case round =>
                  obtain ⟨k, hk, rfl, HQ, HO⟩ := hrel
                  by_cases hkl : k < Ls.length
                  · obtain ⟨⟨fn, kd, tx, nu, ks⟩, hf⟩ : ∃ f, Ls[k]? = some f := ⟨_, List.getElem?_eq_getElem hkl⟩
                    have HFk := Lib.hid hf
                    have HOk := Lib.hid (fun h => pre_succ (p := fun i f => okT ds fs.length i f = true ∧ ∀ (i' : Nat) f', i' < i → Ls[i']? = some f' → f'.1 ≠ f.1) hf HO.out h)
                    clear hf HO HDG
                    obtain ⟨W3, hW3⟩ : ∃ W3, W3 = wr := ⟨_, rfl⟩
                    subst hW3
                    go_wp2_with fail
                    go_loopw [12] (fun v wr => ∃ q : Nat, q ≤ k ∧ v = .int .i64 q ∧ Hid (Below W3.heap.size W3 wr) ∧ Hid (∀ (i : Nat) f', i < q → Ls[i]? = some f' → f'.1 ≠ fn)) (fun v _ => k - (intOf v).toNat)
                    case atStart => exact ⟨0, Nat.zero_le _, rfl, Below.refl _ _, fun i f hi => by omega⟩
                    case round =>
                      obtain ⟨q, hq, rfl, HR, HU⟩ := hrel
                      have hQr := HQ.out.trans (HR.out.mono HQ.out.size)
                      have HBr := Lib.hid (HB2.out.trans (hQr.mono hz2))
                      obtain ⟨ao', c', e, hat⟩ := HF2.out.later hQr
                      cases e
                      obtain ⟨g3, o3, s3, hao, hgl3, z0, z1, z2, z3, z4, hT, hml⟩ := hat k _ HFk.out
                      subst hao
                      obtain ⟨a4, c4, rfl⟩ := hT.slice
                      simp only [Tr.kind, Tr.text, Tr.num] at z0 z1 z2 z3 z4
                      by_cases hqk : q < k
                      · obtain ⟨⟨gn, gt⟩, hg⟩ : ∃ f, Ls[q]? = some f := ⟨_, List.getElem?_eq_getElem (by omega)⟩
                        obtain ⟨g4, o4, s4, hao, hgl4, y0, _⟩ := hat q _ hg
                        cases hao
                        simp only at y0
                        have hql : q < Ls.length := by omega
                        clear hat hT hml z1 z2 z3 z4
                        cases hEq : (gn == fn) with
                        | true =>
                          have HE := Lib.hid (HG2.out q k _ _ hqk hg HFk.out (by simpa using hEq))
                          clear hg
                          go_wp2
                          go_region
                          all_goals go_wp2
                          all_goals go_ret
                          all_goals exact SoO.of HE.out ⟨HBr.out.os, HBr.out.tape, HBr.out.output, HBr.out.size, HBr.out.block⟩
                        | false =>
                          have HN := Lib.hid (pre_succ (p := fun _ f' => f'.1 ≠ fn) hg HU.out (by simpa using hEq))
                          clear hg HU
                          go_wp2
                          go_region
                          all_goals go_wp2
                          all_goals go_roundw
                          case rel => exact ⟨q + 1, by omega, by go_num, ⟨HR.out.os, HR.out.tape, HR.out.output, HR.out.size, HR.out.block⟩, HN⟩
                          case measure => simp [intOf]; omega
                      · obtain rfl : q = k := by omega
                        have cA := rall_any ds (by omega) _ 20000 kd tx nu ks a4 c4 wr (HG3.out _ _ HFk.out) (by omega) (HL.out.later HBr.out) hT.kt
                        have HM : Hid (okT ds fs.length q (fn, .mk kd tx nu ks) = (allP ds (.mk kd tx nu ks) && !(decide ((q : Int) < fs.length) && strP ds (.mk kd tx nu ks)))) := rfl
                        have HSt : Hid (∀ W, Below w.heap.size w W → Calls Tryz.prog 48 #[.slice (some ⟨g, o, none⟩) ds.length cap, .agg #[.int .i64 kd, .string ⟨tx.toArray⟩, .int .i64 nu, .slice a4 ks.length c4]] W (OutB (strP ds (.mk kd tx nu ks)) W)) := fun W hh => rstr_any ds _ kd tx nu ks a4 c4 W (by omega) (HL.out.later hh)
                        clear hat hT hml
                        generalize allP ds (.mk kd tx nu ks) = b1 at *
                        generalize strP ds (.mk kd tx nu ks) = b2 at *
                        cases b1 with
                        | false =>
                          have HE := Lib.hid (HG1.out q _ HFk.out (by rw [HM.out]; rfl))
                          go_wp2_with fail
                          refine cA.mono ?_
                          rintro e w5 ⟨rfl, hb5⟩
                          have HR5 := Lib.hid (HR.out.trans (hb5.mono HR.out.size))
                          have HQ5 := Lib.hid (HQ.out.trans (HR5.out.mono HQ.out.size))
                          have HB5 := Lib.hid (HB2.out.trans (HQ5.out.mono hz2))
                          have y2 := (HQ5.out.cell (p := ⟨g, _, none⟩) hgl2).trans d2
                          have v1 := (hb5.cell (p := ⟨g3, _, none⟩) hgl3).trans z1
                          have v2 := (hb5.cell (p := ⟨g3, _, none⟩) hgl3).trans z2
                          have v3 := (hb5.cell (p := ⟨g3, _, none⟩) hgl3).trans z3
                          have v4 := (hb5.cell (p := ⟨g3, _, none⟩) hgl3).trans z4
                          clear cA hb5 z0 z1 z2 z3 z4
                          go_wp2
                          go_ret
                          exact SoO.of HE.out HB5.out
                        | true =>
                          by_cases hkn : q < fs.length
                          · have dk : decide ((q : Int) < (fs.length : Int)) = true := by simpa using hkn
                            cases b2 with
                            | true =>
                              have HE := Lib.hid (HG1.out q _ HFk.out (by rw [HM.out, dk]; rfl))
                              go_wp2_with fail
                              refine cA.mono ?_
                              rintro e w5 ⟨rfl, hb5⟩
                              have HR5 := Lib.hid (HR.out.trans (hb5.mono HR.out.size))
                              have HQ5 := Lib.hid (HQ.out.trans (HR5.out.mono HQ.out.size))
                              have HB5 := Lib.hid (HB2.out.trans (HQ5.out.mono hz2))
                              have y2 := (HQ5.out.cell (p := ⟨g, _, none⟩) hgl2).trans d2
                              have v1 := (hb5.cell (p := ⟨g3, _, none⟩) hgl3).trans z1
                              have v2 := (hb5.cell (p := ⟨g3, _, none⟩) hgl3).trans z2
                              have v3 := (hb5.cell (p := ⟨g3, _, none⟩) hgl3).trans z3
                              have v4 := (hb5.cell (p := ⟨g3, _, none⟩) hgl3).trans z4
                              clear cA hb5 z0 z1 z2 z3 z4
                              have cS := HSt.out w5 HB5.out
                              go_wp2_with fail
                              refine cS.mono ?_
                              rintro e w6 ⟨rfl, hb6⟩
                              have HB6 := Lib.hid (HB5.out.trans (hb6.mono HB5.out.size))
                              clear cS hb6
                              go_wp2
                              go_ret
                              exact SoO.of HE.out HB6.out
                            | false =>
                              have HN := Lib.hid (HOk.out ⟨by rw [HM.out, dk]; rfl, HU.out⟩)
                              go_wp2_with fail
                              refine cA.mono ?_
                              rintro e w5 ⟨rfl, hb5⟩
                              have HR5 := Lib.hid (HR.out.trans (hb5.mono HR.out.size))
                              have HQ5 := Lib.hid (HQ.out.trans (HR5.out.mono HQ.out.size))
                              have HB5 := Lib.hid (HB2.out.trans (HQ5.out.mono hz2))
                              have y2 := (HQ5.out.cell (p := ⟨g, _, none⟩) hgl2).trans d2
                              have v1 := (hb5.cell (p := ⟨g3, _, none⟩) hgl3).trans z1
                              have v2 := (hb5.cell (p := ⟨g3, _, none⟩) hgl3).trans z2
                              have v3 := (hb5.cell (p := ⟨g3, _, none⟩) hgl3).trans z3
                              have v4 := (hb5.cell (p := ⟨g3, _, none⟩) hgl3).trans z4
                              clear cA hb5 z0 z1 z2 z3 z4
                              have cS := HSt.out w5 HB5.out
                              go_wp2_with fail
                              refine cS.mono ?_
                              rintro e w6 ⟨rfl, hb6⟩
                              have HQ6 := Lib.hid (HQ5.out.trans (hb6.mono HQ5.out.size))
                              clear cS hb6
                              go_wp2
                              go_roundw
                              case rel => exact ⟨q + 1, by omega, by go_num, HQ6, HN⟩
                              case measure => simp [intOf]; omega
                          · have dk : decide ((q : Int) < (fs.length : Int)) = false := by simpa using hkn
                            have HN := Lib.hid (HOk.out ⟨by rw [HM.out, dk]; rfl, HU.out⟩)
                            go_wp2_with fail
                            refine cA.mono ?_
                            rintro e w5 ⟨rfl, hb5⟩
                            have HR5 := Lib.hid (HR.out.trans (hb5.mono HR.out.size))
                            have HQ5 := Lib.hid (HQ.out.trans (HR5.out.mono HQ.out.size))
                            have HB5 := Lib.hid (HB2.out.trans (HQ5.out.mono hz2))
                            have y2 := (HQ5.out.cell (p := ⟨g, _, none⟩) hgl2).trans d2
                            have v1 := (hb5.cell (p := ⟨g3, _, none⟩) hgl3).trans z1
                            have v2 := (hb5.cell (p := ⟨g3, _, none⟩) hgl3).trans z2
                            have v3 := (hb5.cell (p := ⟨g3, _, none⟩) hgl3).trans z3
                            have v4 := (hb5.cell (p := ⟨g3, _, none⟩) hgl3).trans z4
                            clear cA hb5 z0 z1 z2 z3 z4
                            go_wp2
                            go_roundw
                            case rel => exact ⟨q + 1, by omega, by go_num, HQ5, HN⟩
                            case measure => simp [intOf]; omega
                  · obtain rfl : k = Ls.length := by omega
                    have HN := Lib.hid (HDG.out H0.out HO.out)
                    have HB7 := Lib.hid (HB2.out.trans (HQ.out.mono hz2))
                    clear HO HG1 HG2 HG3 HDG
                    go_wp2
                    go_roundw
                    case rel => exact ⟨j + 1, by omega, by go_num, HB7, HN⟩
                    case measure => simp [intOf]; omega
            · have HE : Hid (errP ds = 0) := err_ok hn HS.out HF.out (find_once fun i d h => (HA.out i d (by have := get_lt5 h; omega) h).1) (pre_all fun i y hi h => (HA.out i y (by omega) h).2)
              clear HA
              obtain rfl : j = ds.length := by omega
              go_wp2
              go_ret
              exact SoO.of HE.out HB.out
end Go.Proofs.YtbejkphekfbfnaaGreat
