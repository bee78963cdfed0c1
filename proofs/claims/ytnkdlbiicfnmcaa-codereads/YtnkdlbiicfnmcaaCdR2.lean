/- The reader: number, count, take, text, fixed. -/
import Derived.Test.YtnkdlbiicfnmcaaCdR1
import Derived.Laws.IdiomStrings
namespace Go.Proofs.Ytnkdlbiicfnmcaa
open Go.RowKit
section
variable {B A : Nat} {w w' : World} {s : Rs}
theorem Rl.put1 (L : Rl B A w s) {g : Nat} (hg : B ≤ g) (hA : g ≠ A) (o : Nat) (u : Value) : Rl B A (w.setCell ⟨g, o, none⟩ u) s :=
  L.keep (fun j hj => Below.heap_setCell w _ _ j (show j ≠ g by omega)) (Below.heap_setCell w _ _ A (fun e => hA e.symm))
theorem rnumber_any (L : Rl B A w s) (hl : s.rest.length ≤ MB) {g o : Nat} {c : Array Value} {t : TypeId} (hc : w.heap[g]? = some (.cells c t (0, 0))) (hg : B ≤ g) (hA : g ≠ A) (ho : o < c.size) :
    Calls Try.prog 68 #[.pointer (some ⟨A, 0, none⟩), .pointer (some ⟨g, o, none⟩)] w fun e w' => e = .returned (.tuple #[]) ∧ Rl B A w' (numR s).2 ∧ RPut A g o [.int .i64 (numR s).1] w w' := by
  have C1 := hide (rbits_any L hl)
  have C2 := hide (show ∀ W, _ from fun W => unfolded_any (bitsS s).1 (bitsS_lt s) W)
  have HC := hide hc
  have HG := hide hg
  have HA := hide hA
  have HO := hide ho
  have hgl := lt_of_block hc
  obtain ⟨n, hn⟩ : ∃ n, numR s = n := ⟨_, rfl⟩
  have HN := hide (show numR s = (unzig (bitsS s).1, (bitsS s).2) from rfl)
  clear L hc hg hA ho hl hn
  generalize (bitsS s).1 = z at *
  generalize (bitsS s).2 = s2 at *
  generalize hu : unzig z = u at *
  clear hu
  go_enter Try.func68, Try.ntmps68
  go_wp2_with fail
  refine C1.out.mono ?_
  rintro e w1 ⟨rfl, L1, F1⟩
  have hb : w1.heap[g]? = some (.cells c t (0, 0)) := (F1.block g hgl HA.out).trans HC.out
  have k0 : ∃ v0, w1.cell? ⟨g, o, none⟩ = some v0 := ⟨c[o]'HO.out, by simp [World.cell?, hb, HO.out]⟩
  obtain ⟨v0, k0⟩ := k0
  have f0 : w1.frozen? ⟨g, o, none⟩ = false := by simp [World.frozen?, hb]
  have hg1 := lt_of_block hb
  have HP := hide (F1.put (put_one hb HO.out (.int .i64 u)) hgl HA.out)
  have HL := hide (L1.put1 HG.out HA.out o (.int .i64 u))
  clear L1 F1 hb C1 HC hgl
  go_wp2_with fail
  refine (C2.out w1).mono ?_
  rintro e w2 ⟨rfl, rfl⟩
  go_wp2
  go_returns
  rw [HN.out]
  exact ⟨rfl, HL.out, HP.out⟩
theorem rcount_any (L : Rl B A w s) (hl : s.rest.length ≤ MB) (n : Int) :
    Calls Try.prog 65 #[.pointer (some ⟨A, 0, none⟩), .int .i64 n] w fun e w' => e = .returned (.int .i64 ((cntR s).1 : Nat)) ∧ Rl B A w' (cntR s).2 ∧ Fr A w w' := by
  obtain ⟨W1, hW1⟩ : ∃ W1, w.alloc (.cells #[.int .i64 0] 3) = W1 := ⟨_, rfl⟩
  have hb : W1.heap[w.heap.size]? = some (.cells #[.int .i64 0] 3 (0, 0)) := by rw [← hW1]; exact heap_new _ _ rfl
  have hlt := L.lt
  have hBA := L.1
  have L1 := hide (show Rl B A W1 s from hW1 ▸ L.alloc _)
  have C1 := hide (rnumber_any L1.out hl (g := w.heap.size) (o := 0) hb (by omega) (by omega) (by decide))
  have F0 := hide (show Fr A w W1 from hW1 ▸ Fr.of_below ((Below.refl _ _).alloc (Nat.le_refl _) _))
  have z1 : W1.heap.size = w.heap.size + 1 := by rw [← hW1]; simp
  have HZ := hide z1
  have HB := hide hb
  have HLT := hide hlt
  have HC := hide (show cntR s = if (numR s).1 < 0 then (0, failS) else ((numR s).1.toNat, (numR s).2) from rfl)
  clear L hb hlt hl z1 hBA
  generalize (numR s).1 = m at *
  generalize (numR s).2 = s2 at *
  go_enter Try.func65, Try.ntmps65
  go_wp2_with fail
  refine C1.out.mono ?_
  rintro e w2 ⟨rfl, L2, P2⟩
  have F2 : Fr A w w2 := ⟨P2.os.trans F0.out.os, P2.tape.trans F0.out.tape, P2.output.trans F0.out.output, Nat.le_trans F0.out.size P2.size, fun j hj hn => (P2.block j (by have := HZ.out; omega) hn (by omega)).trans (F0.out.block j hj hn)⟩
  obtain ⟨c', h1, _, h2, _⟩ := P2.self _ _ HB.out
  have k0 : w2.cell? ⟨w.heap.size, 0, none⟩ = some (.int .i64 m) := cell_of h1 (by have := h2 0 _ rfl; simpa using this)
  have HL := hide L2
  have HF := hide F2
  clear L2 P2 F2 h1 h2 C1 hW1
  by_cases hm : m < 0
  · have d1 : decide (m < 0) = true := by simpa using hm
    have HM := hide hm
    clear hm
    have C2 := hide (rfail_any HL.out)
    go_wp2_with fail
    refine C2.out.mono ?_
    rintro e w3 ⟨rfl, L3, F3⟩
    have HL3 := hide L3
    have HF3 := hide (HF.out.trans F3)
    clear L3 F3
    go_wp2
    go_ret
    rw [HC.out, if_pos HM.out]
    exact ⟨rfl, HL3.out, HF3.out⟩
  · have d1 : decide (m < 0) = false := by simpa using hm
    have HM := hide hm
    clear hm
    go_wp2
    go_ret
    rw [HC.out, if_neg (by have := HM.out; omega)]
    exact ⟨congrArg (fun x => Ending.returned (Value.int .i64 x)) (by have := HM.out; omega), HL.out, HF.out⟩
set_option maxRecDepth 100000 in
set_option maxHeartbeats 1000000 in
theorem rtake_any (L : Rl B A w s) (hl : s.rest.length ≤ MB) {n : Nat} (hn : n ≤ 9223372036854775807) :
    Calls Try.prog 70 #[.pointer (some ⟨A, 0, none⟩), .int .i64 n] w fun e w' => e = .returned (.string ⟨(takeR n s).1.toArray⟩) ∧ Rl B A w' (takeR n s).2 ∧ Fr A w w' := by
  have HL := hide L
  have HFL := hide (rfail_any L)
  obtain ⟨h1, v, h2, h3⟩ := L
  have H3 := hide h3
  obtain ⟨ao, cap, rfl, hcap, hcm, hno, hsp, hel⟩ := h3
  have c0 : w.cell? ⟨A, 0, none⟩ = some (.slice ao s.rest.length cap) := cell_of h2 rfl
  have f0 : w.frozen? ⟨A, 0, none⟩ = false := by simp [World.frozen?, h2]
  have hlt := lt_of_block h2
  have HT := hide (show takeR n s = if s.rest.length < n then ([], failS) else (s.rest.take n, ⟨s.rest.drop n, s.bad⟩) from rfl)
  by_cases hx : s.rest.length < n
  · have d1 : decide (s.rest.length < n) = true := by simpa using hx
    have d2 : decide ((s.rest.length : Int) < (n : Int)) = true := by simp; omega
    have HX := hide hx
    clear hx h2 hel hcap hcm hno hsp hl h1 hn
    generalize s.rest.length = m at *
    go_enter Try.func70, Try.ntmps70
    go_wp2_with fail
    refine HFL.out.mono ?_
    rintro e w2 ⟨rfl, L2, F2⟩
    have HL2 := hide L2
    have HF2 := hide F2
    clear L2 F2
    go_wp2
    go_ret
    rw [HT.out, if_pos HX.out]
    exact ⟨rfl, HL2.out, HF2.out⟩
  · have d1 : decide (s.rest.length < n) = false := by simpa using hx
    have d2 : decide ((s.rest.length : Int) < (n : Int)) = false := by simp; omega
    have HX := hide hx
    have b1 : (n : Int) ≤ (s.rest.length : Int) := by omega
    have b2 : (s.rest.length : Int) ≤ 4194304 := by simp only [MB] at hl; omega
    have b3 : (s.rest.length : Int) ≤ (cap : Int) := by omega
    have hcv : (convert 28 9 (.slice ao n cap)).run Try.prog w = .ok (.string ⟨(s.rest.take n).toArray⟩) w := by
      cases ao with
      | none =>
        obtain rfl : n = 0 := by have := hno rfl; omega
        exact run_convert_bytes_nil w 28 5 Try.underlying28 Try.underlying5 0 cap 9 Try.underlying9
      | some a =>
        have := run_convert_bytes_back w 28 9 5 a cap (s.rest.take n) Try.underlying28 Try.underlying5 Try.underlying9 (fun j hj => by
          rw [List.length_take] at hj
          have hj2 : j < s.rest.length := by omega
          obtain ⟨g, o, he, _, hcell⟩ := hel j _ (List.getElem?_eq_getElem hj2)
          cases he
          rw [show (⟨g, o, none⟩ : Addr).add j = ⟨g, o + j, none⟩ by cases j <;> simp [Addr.add], hcell]
          simp)
        rw [List.length_take, Nat.min_eq_left (by omega)] at this
        exact this
    have HV1 := hide (show cap = n → BytesAt B w (.slice ao (s.rest.length - n) 0) (s.rest.drop n) from fun hc => by
      have he : s.rest.drop n = [] := List.drop_eq_nil_of_le (by omega)
      refine ⟨ao, 0, by rw [he, List.length_nil, Nat.sub_eq_zero_of_le (by omega)], by rw [he]; simp, by decide, fun _ => rfl, hsp, fun j b hb => ?_⟩
      rw [he] at hb
      simp at hb)
    have HV2 := hide (show BytesAt B w (.slice (Option.map (fun x => x.add n) ao) (s.rest.length - n) (cap - n)) (s.rest.drop n) from by
      refine ⟨_, _, by rw [List.length_drop], by rw [List.length_drop]; omega, by omega, (by intro h; cases ao with | none => (have := hno rfl; omega) | some a => simp at h), (fun _ _ => trivial), fun j b hb => ?_⟩
      rw [List.getElem?_drop] at hb
      obtain ⟨g', o', h7, h8, h9⟩ := hel _ b hb
      subst h7
      refine ⟨g', o' + n, ?_, h8, by rw [Nat.add_assoc]; exact h9⟩
      cases n <;> simp [Addr.add])
    clear hx h2 hel hcap hcm hno hsp hl h1 hn
    generalize hm : s.rest.length = m at *
    have HM := hide hm
    clear hm
    go_enter Try.func70, Try.ntmps70
    go_wp2
    · go_ret
      rw [HT.out, if_neg (by have := HX.out; omega)]
      have := HL.out.set (s' := ⟨s.rest.drop n, s.bad⟩) (HV1.out (by omega)) rfl
      exact ⟨rfl, this.1, this.2⟩
    · go_ret
      rw [HT.out, if_neg (by have := HX.out; omega)]
      have := HL.out.set (s' := ⟨s.rest.drop n, s.bad⟩) HV2.out rfl
      exact ⟨rfl, this.1, this.2⟩
theorem rtext_any (L : Rl B A w s) (hl : s.rest.length ≤ MB) {g o : Nat} {c : Array Value} {t : TypeId} (hc : w.heap[g]? = some (.cells c t (0, 0))) (hg : B ≤ g) (hA : g ≠ A) (ho : o < c.size) :
    Calls Try.prog 69 #[.pointer (some ⟨A, 0, none⟩), .pointer (some ⟨g, o, none⟩)] w fun e w' => e = .returned (.tuple #[]) ∧ Rl B A w' (strR s).2 ∧ RPut A g o [.string ⟨(strR s).1.toArray⟩] w w' := by
  have C1 := hide (rcount_any L hl 0)
  have HC := hide hc
  have HG := hide hg
  have HA := hide hA
  have HO := hide ho
  have hgl := lt_of_block hc
  have HS := hide (show strR s = takeR (cntR s).1 (cntR s).2 from rfl)
  have HLe := hide (show (cntR s).2.rest.length ≤ MB by
    rcases cntR_eats s with h | h
    · rw [h]; decide
    · omega)
  have HCl := hide (cntR_le s)
  clear L hc hg hA ho hl
  generalize (cntR s).1 = n at *
  generalize (cntR s).2 = s2 at *
  go_enter Try.func69, Try.ntmps69
  go_wp2_with fail
  refine C1.out.mono ?_
  rintro e w1 ⟨rfl, L1, F1⟩
  have C2 := hide (rtake_any L1 HLe.out HCl.out)
  have HF := hide F1
  clear L1 F1 C1
  generalize takeR n s2 = u at *
  go_wp2_with fail
  refine C2.out.mono ?_
  rintro e w2 ⟨rfl, L2, F2⟩
  have F3 := HF.out.trans F2
  have hb : w2.heap[g]? = some (.cells c t (0, 0)) := (F3.block g hgl HA.out).trans HC.out
  have k0 : ∃ v0, w2.cell? ⟨g, o, none⟩ = some v0 := ⟨c[o]'HO.out, by simp [World.cell?, hb, HO.out]⟩
  obtain ⟨v0, k0⟩ := k0
  have f0 : w2.frozen? ⟨g, o, none⟩ = false := by simp [World.frozen?, hb]
  have hg1 := lt_of_block hb
  have HP := hide (F3.put (put_one hb HO.out (.string ⟨u.1.toArray⟩)) hgl HA.out)
  have HL := hide (L2.put1 HG.out HA.out o (.string ⟨u.1.toArray⟩))
  clear L2 F2 F3 hb C2 HC hgl HF
  go_wp2
  go_returns
  rw [HS.out]
  exact ⟨rfl, HL.out, HP.out⟩
theorem rfixed_any (L : Rl B A w s) (hl : s.rest.length ≤ MB) :
    Calls Try.prog 67 #[.pointer (some ⟨A, 0, none⟩), .string ⟨#[72, 89, 49]⟩] w fun e w' => e = .returned (.tuple #[]) ∧ Rl B A w' (fixedR s) ∧ Fr A w w' := by
  have C1 := hide (rtake_any L hl (n := 3) (by omega))
  have HS := hide (show fixedR s = if (takeR 3 s).1 = hdE then (takeR 3 s).2 else failS from rfl)
  clear L hl
  generalize takeR 3 s = u at *
  go_enter Try.func67, Try.ntmps67
  go_wp2_with fail
  refine C1.out.mono ?_
  rintro e w1 ⟨rfl, L1, F1⟩
  have C2 := hide (rfail_any L1)
  have HL := hide L1
  have HF := hide F1
  clear L1 F1 C1
  by_cases hq : u.1 = hdE
  · have e1 : (u.1 == [72, 89, 49]) = true := by rw [hq]; rfl
    have HQ := hide hq
    clear hq
    go_wp2
    go_returns
    rw [HS.out, if_pos HQ.out]
    exact ⟨rfl, HL.out, HF.out⟩
  · have e1 : (u.1 == [72, 89, 49]) = false := by simpa [hdE] using hq
    have HQ := hide hq
    clear hq
    go_wp2_with fail
    refine C2.out.mono ?_
    rintro e w2 ⟨rfl, L2, F2⟩
    have HL2 := hide L2
    have HF2 := hide (HF.out.trans F2)
    clear L2 F2
    go_wp2
    go_returns
    rw [HS.out, if_neg HQ.out]
    exact ⟨rfl, HL2.out, HF2.out⟩
end
end Go.Proofs.Ytnkdlbiicfnmcaa
