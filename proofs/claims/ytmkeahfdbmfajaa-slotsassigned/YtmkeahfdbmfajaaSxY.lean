/- Most: how many ranges overlap at most. -/
import Derived.Test.YtmkeahfdbmfajaaSxX
import Derived.Test.YtmkeahfdbmfajaaSxQ
namespace Go.Proofs.Ytmkeahfdbmfajaa
open Go.RowKit
def mstP (l : List Rg) : Nat := if fltP l = 0 then mo l l.length else 0
theorem snd_k {l : List Rg} (h : fltP l = 0) : ∀ a, a < l.length → kf l a < kt l a := fun a ha => by
  obtain ⟨p, hp⟩ : ∃ p, l[a]? = some p := ⟨l[a], by simp⟩
  rw [kf_get hp, kt_get hp]
  exact (snd_of (fltP_ok h).2 p (List.mem_of_getElem? hp)).2
theorem cE_mono {l : List Rg} {s t : Int} (h : s ≤ t) : cE l s ≤ cE l t := List.countP_mono_left (fun a _ h2 => by simp at h2 ⊢; omega)
theorem mo_bound (l : List Rg) : ∀ k, mo l k ≤ k
  | 0 => Nat.le_refl _
  | k + 1 => by have := mo_bound l k; simp only [mo]; omega
section
variable {w : World}
set_option maxRecDepth 20000 in
set_option maxHeartbeats 2000000 in
theorem most_any {v : Value} {l : List Rg} (R : RgsAt w v l) : Calls Try.prog 8 #[v] w fun e w' => e = .returned (.tuple #[.int .i64 (mstP l : Nat), .int .i64 (fltP l)]) ∧ Below w.heap.size w w' := by
  have hfa := fault_any R
  have HR := hide R
  rcases fltP_cases l with ⟨hf, hl, _⟩ | hf | hf
  · have hc : Hid (mstP l = mo l l.length) := hide (if_pos hf)
    have HS := hide (snd_k hf)
    obtain ⟨ao, cap, rfl⟩ := R.slice
    rw [hf] at hfa ⊢
    obtain ⟨n, hn⟩ : ∃ n, l.length = n := ⟨_, rfl⟩
    have HN := hide hn
    rw [hn] at hl HR hfa hc ⊢
    clear R hn hf
    have hn2 : (n : Int) ≤ 20000 := by omega
    go_enter Try.func8, Try.ntmps8
    go_wp2_with (first
      | (go_at_call 14; refine hfa.mono ?_; rintro e w1 ⟨rfl, hb1⟩; have HB1 := hide hb1; clear hb1 hfa)
      | (go_at_call 19; refine (bounds_any (HR.out.below HB1.out) (by rw [HN.out]; exact hl)).mono ?_; rintro e w2 ⟨⟨v1, v2, rfl, HI⟩, hb2⟩
         obtain ⟨a1, c1, e1⟩ := HI.out.1.slice
         obtain ⟨a2, c2, e2⟩ := HI.out.2.slice
         rw [bsP_len, HN.out] at e1
         rw [esP_len, HN.out] at e2
         subst e1 e2
         have HB2 := hide (HB1.out.trans (hb2.mono HB1.out.size))
         clear hb2))
    go_loopw [7, 8, 23] (fun m k i wr => ∃ (j k1 : Nat), j ≤ n ∧ i = .int .i64 j ∧ m = .int .i64 (mo l j : Nat) ∧ k = .int .i64 k1 ∧ wr = w2 ∧ Hid (∀ (i a : Nat), j ≤ i → (ordP l)[i]? = some a → k1 ≤ cE l (kf l a))) (fun _ _ i _ => n - (intOf i).toNat)
    case atStart => exact ⟨0, 0, Nat.zero_le _, rfl, rfl, rfl, rfl, fun _ _ _ _ => Nat.zero_le _⟩
    case round =>
      obtain ⟨j, k1, hj, rfl, rfl, rfl, rfl, HK⟩ := hrel
      by_cases hlt : j < n
      · obtain ⟨a, ha⟩ : ∃ a, (ordP l)[j]? = some a := ⟨(ordP l)[j]'(by rw [ordP_len, HN.out]; exact hlt), by simp⟩
        have hk1 := HK.out j a (Nat.le_refl _) ha
        obtain ⟨gb, ob, rfl, hgb, cb⟩ := HI.out.1.cell (bsP_get ha)
        have hce := cE_lt HS.out ha
        have hmb := mo_bound l j
        have hmo : mo l (j + 1) = max (mo l j) (j + 1 - cE l (kf l a)) := by
          simp only [mo]
          rw [show (ordP l).getD j 0 = a by simp [List.getD_eq_getElem?_getD, ha]]
        have hnext : Hid (∀ (i b : Nat), j + 1 ≤ i → (ordP l)[i]? = some b → cE l (kf l a) ≤ cE l (kf l b)) := hide fun i b hi hb => cE_mono (ord_le2 ha hb (by omega))
        have hes : Hid (∀ (k : Nat) (x : Int), (esP l)[k]? = some x → (x ≤ kf l a ↔ k < cE l (kf l a))) := hide fun k x hx => esP_rise hx
        obtain ⟨t, ht⟩ : ∃ t, kf l a = t := ⟨_, rfl⟩
        rw [ht] at hk1 cb hce hmo hnext hes
        obtain ⟨ce, hce2⟩ : ∃ ce, cE l t = ce := ⟨_, rfl⟩
        rw [hce2] at hk1 hce hmo hnext hes
        obtain ⟨m0, hm0⟩ : ∃ m0, mo l j = m0 := ⟨_, rfl⟩
        rw [hm0] at hmo hmb ⊢
        have HMO := hide hmo
        have bj : (j : Int) < (n : Int) := by omega
        clear hmo ha ht hce2 hm0 HK
        go_wp2
        go_loopw [8] (fun k wi => ∃ k2 : Nat, k2 ≤ ce ∧ k = .int .i64 k2 ∧ wi = wr) (fun k _ => ce - (intOf k).toNat)
        case atStart => exact ⟨k1, hk1, rfl, rfl⟩
        case round =>
          obtain ⟨k2, hk2, rfl, rfl⟩ := hrel
          obtain ⟨x, hx⟩ : ∃ x, (esP l)[k2]? = some x := ⟨(esP l)[k2]'(by rw [esP_len, HN.out]; omega), by simp⟩
          obtain ⟨ge, oe, rfl, hge, cx⟩ := HI.out.2.cell hx
          have hxi := hes.out k2 x hx
          have bk : (k2 : Int) < (n : Int) := by omega
          clear hx
          by_cases hxt : x ≤ t
          · have hk3 := hxi.mp hxt
            clear hxi
            go_wp2
            go_roundw
            case rel => exact ⟨k2 + 1, by omega, by go_num, trivial⟩
            case measure => simp [intOf]; omega
          · have hk3 : k2 = ce := by
              have : ¬ k2 < ce := fun h => hxt (hxi.mpr h)
              omega
            subst hk3
            have hxt' : decide (x ≤ t) = false := by simpa using hxt
            clear hxi
            have e1 : IntKind.i64.wrap ((j : Int) + 1) = (j : Int) + 1 := by rw [IntKind.wrap_i64]; omega
            have e2 : IntKind.i64.wrap ((j : Int) + 1 - (k2 : Int)) = ((j + 1 - k2 : Nat) : Int) := by rw [IntKind.wrap_i64]; omega
            go_wp2
            go_roundw
            case rel => exact ⟨j + 1, k2, by omega, by go_num, by rw [HMO.out]; exact congrArg (Value.int .i64) (by omega), rfl, trivial, hnext⟩
            case measure => simp [intOf]; omega
      · obtain rfl : j = n := by omega
        go_wp2
        go_returns
        exact ⟨by rw [hc.out]; rfl, HB2.out⟩
  · have hc : mstP l = 0 := if_neg (by rw [hf]; decide)
    obtain ⟨ao, cap, rfl⟩ := R.slice
    rw [hf] at hfa
    rw [hf, hc]
    generalize l.length = n at *
    clear R hc hf
    go_enter Try.func8, Try.ntmps8
    go_wp2_with (go_at_call 14; refine hfa.mono ?_; rintro e w1 ⟨rfl, hb1⟩; clear hfa)
    go_returns
    exact ⟨rfl, hb1⟩
  · have hc : mstP l = 0 := if_neg (by rw [hf]; decide)
    obtain ⟨ao, cap, rfl⟩ := R.slice
    rw [hf] at hfa
    rw [hf, hc]
    generalize l.length = n at *
    clear R hc hf
    go_enter Try.func8, Try.ntmps8
    go_wp2_with (go_at_call 14; refine hfa.mono ?_; rintro e w1 ⟨rfl, hb1⟩; clear hfa)
    go_returns
    exact ⟨rfl, hb1⟩
end
end Go.Proofs.Ytmkeahfdbmfajaa
