/- around, whole. -/
import Derived.Test.YtaejhppfcmeopaaLxH
namespace Go.Proofs.Ytaejhppfcmeopaa
open Go.RowKit
section
variable {w : World} {gb n cap : Nat} {P : Nat → Nat}
set_option maxRecDepth 20000 in
set_option maxHeartbeats 4000000 in
theorem around_any (hP : ∀ t, Sm (P t)) (hPn : ∀ t i, (P t).testBit i = true → i < n) (hn : n ≤ 512) (h0 : 0 < n) (G : GrA w gb n P) {one : Nat} (ho : one < 512) :
    Calls Try.prog 46 #[.slice (some ⟨gb, 0, none⟩) n cap, .int .i64 one] w fun e w' => e = .returned (setV (arP P one)) ∧ Below w.heap.size w w' := by
  go_enter Try.func46, Try.ntmps46
  go_upto_region 2 with fail
  obtain ⟨W, hW⟩ : ∃ W, ((w.alloc (.cells #[.slice (some ⟨gb, 0, none⟩) n cap] 58)).alloc (.cells #[.int .u64 0, .int .u64 0, .int .u64 0, .int .u64 0, .int .u64 0, .int .u64 0, .int .u64 0, .int .u64 0] 64)).alloc (.cells #[.int .u64 0, .int .u64 0, .int .u64 0, .int .u64 0, .int .u64 0, .int .u64 0, .int .u64 0, .int .u64 0] 64) = W := ⟨_, rfl⟩
  have hB : Below w.heap.size w W := by rw [← hW]; exact (((Below.refl _ _).alloc (Nat.le_refl _) _).alloc (by simp) _).alloc (by simp; omega) _
  have hz : W.heap.size = w.heap.size + 3 := by rw [← hW]; simp
  have hg : W.heap[w.heap.size]? = some (.cells #[.slice (some ⟨gb, 0, none⟩) n cap] 58 (0, 0)) := by rw [← hW, heap_under _ _ (by simp; omega), heap_under _ _ (by simp)]; exact heap_new _ _ rfl
  have hr : W.heap[w.heap.size + 1]? = some (.cells #[.int .u64 0, .int .u64 0, .int .u64 0, .int .u64 0, .int .u64 0, .int .u64 0, .int .u64 0, .int .u64 0] 64 (0, 0)) := by rw [← hW, heap_under _ _ (by simp)]; exact heap_new _ _ (by simp)
  have hs : BoxS W (w.heap.size + 1 + 1) 0 := by
    unfold BoxS
    rw [← zc_eq, ← hW]
    exact heap_new _ _ (by simp)
  rw [hW]
  have hadd := add_box hs ho
  have HW := hide (And.intro hB (And.intro hz (And.intro hg hr)))
  clear hW hB hz hg hr hs
  go_upto_region 5 with (go_at_call 42; refine hadd.mono ?_; rintro e w3 ⟨⟨v3, rfl⟩, hb1, hk3⟩; have H3 := hide (And.intro hb1 hk3); clear hadd hb1 hk3)
  obtain ⟨hB, hz, hg, hr⟩ := HW.out
  obtain ⟨V, hV⟩ : ∃ V, w3.alloc (.cells #[.func (.func 54) #[] #[pp (w.heap.size + 1 + 1), pp w.heap.size, pp w3.heap.size]] 70) = V := ⟨_, rfl⟩
  have hBV : Below w3.heap.size w3 V := by rw [← hV]; exact (Below.refl _ _).alloc (Nat.le_refl _) _
  have hz3 := H3.out.2.size
  have hgl := G.gl
  have hp2 : w3.heap[w.heap.size]? = some (.cells #[.slice (some ⟨gb, 0, none⟩) n cap] 58 (0, 0)) := (H3.out.2.block _ (by omega) (by omega)).trans hg
  have hrs : w3.heap[w.heap.size + 1]? = some (.cells #[.int .u64 0, .int .u64 0, .int .u64 0, .int .u64 0, .int .u64 0, .int .u64 0, .int .u64 0, .int .u64 0] 64 (0, 0)) := (H3.out.2.block _ (by omega) (by omega)).trans hr
  have N : Na V (w.heap.size + 1 + 1) w.heap.size w3.heap.size gb n cap P := by
    refine ⟨(hBV.block _ (by omega)).trans hp2, ((G.below hB).kp H3.out.2 (by omega)).below hBV, ?_, by omega, by omega, by omega⟩
    rw [← hV]; exact heap_new _ _ rfl
  have B1 : BoxS V (w.heap.size + 1 + 1) (2 ^ one) := by
    have := H3.out.1
    rw [Nat.zero_or] at this
    exact this.keep (hBV.block _ this.lt)
  have HRS := hide ((hBV.block _ (by omega)).trans hrs)
  have HBV := hide (Kp.below (Nat.le_refl _) hB (H3.out.2.trans (Kp.of_below hBV)) (fun j hj => by omega) : Below w.heap.size w V)
  have hcall := around1_any hP hPn hn 600 0 (2 ^ one) V (by have := un_max (2 ^ one); omega) h0 (sm_pow ho) N B1
  have cf := cell_of (o := 0) N.f rfl
  have HCL := hide hcall
  have hzV : w3.heap.size < V.heap.size := by rw [← hV]; simp
  have hz4 : w.heap.size + 1 < V.heap.size := by omega
  rw [show ((0 : Nat) : Int) = 0 from rfl] at HCL
  show Code.wp Try.prog _ _ _ (w3.alloc (.cells #[.func (.func 54) #[] #[pp (w.heap.size + 1 + 1), pp w.heap.size, pp w3.heap.size]] 70))
  rw [hV]
  clear N B1 hcall hBV hg hr hp2 hrs hB HW hV
  go_wp2_with (go_at_call 54; refine HCL.out.mono ?_; rintro e w5 ⟨⟨v5, rfl⟩, hb5, hk5⟩; clear HCL
               have hz5 := (hk5.block _ hz4 (by omega)).trans HRS.out
               have HZ5 := hide hz5
               have l5 := lt_of_block hz5
               obtain ⟨⟨c0, c1, c2, c3, c4, c5, c6, c7⟩, f0, f1, f2, f3, f4, f5, f6, f7⟩ := zbox hz5
               obtain ⟨m, hm⟩ : ∃ m, arF P 600 0 (2 ^ one) = m := ⟨_, rfl⟩
               rw [hm] at hb5
               obtain ⟨a0, a1, a2, a3, a4, a5, a6, a7⟩ := hb5.all
               have l6 := hb5.lt
               have HM := hide hm
               have H5 := hide (And.intro hb5 hk5)
               clear hb5 hk5 hz5 hm)
  have e4 : BoxS (st8 w5 (w.heap.size + 1) (.int .u64 (wd m 0)) (.int .u64 (wd m 1)) (.int .u64 (wd m 2)) (.int .u64 (wd m 3)) (.int .u64 (wd m 4)) (.int .u64 (wd m 5)) (.int .u64 (wd m 6)) (.int .u64 (wd m 7))) (w.heap.size + 1) m := st8_heap HZ5.out
  have hkk := st8_kp w5 (w.heap.size + 1) (.int .u64 (wd m 0)) (.int .u64 (wd m 1)) (.int .u64 (wd m 2)) (.int .u64 (wd m 3)) (.int .u64 (wd m 4)) (.int .u64 (wd m 5)) (.int .u64 (wd m 6)) (.int .u64 (wd m 7))
  show bodyPost Try.prog _ _ _ _ (st8 w5 (w.heap.size + 1) (.int .u64 (wd m 0)) (.int .u64 (wd m 1)) (.int .u64 (wd m 2)) (.int .u64 (wd m 3)) (.int .u64 (wd m 4)) (.int .u64 (wd m 5)) (.int .u64 (wd m 6)) (.int .u64 (wd m 7)))
  clear a0 a1 a2 a3 a4 a5 a6 a7 c0 c1 c2 c3 c4 c5 c6 c7 f0 f1 f2 f3 f4 f5 f6 f7
  generalize st8 w5 (w.heap.size + 1) (.int .u64 (wd m 0)) (.int .u64 (wd m 1)) (.int .u64 (wd m 2)) (.int .u64 (wd m 3)) (.int .u64 (wd m 4)) (.int .u64 (wd m 5)) (.int .u64 (wd m 6)) (.int .u64 (wd m 7)) = W6 at e4 hkk ⊢
  obtain ⟨b0, b1, b2, b3, b4, b5, b6, b7⟩ := e4.all
  refine bodyPost_ret (by simp [results, Try.results46, go_sem, b0, b1, b2, b3, b4, b5, b6, b7]; try rfl) rfl ?_
  unfold arP
  rw [HM.out]
  exact ⟨rfl, Kp.below (Nat.le_refl _) (Kp.below (Nat.le_refl _) HBV.out H5.out.2 (fun j hj => by omega)) hkk (fun j hj => by omega)⟩
end
end Go.Proofs.Ytaejhppfcmeopaa
