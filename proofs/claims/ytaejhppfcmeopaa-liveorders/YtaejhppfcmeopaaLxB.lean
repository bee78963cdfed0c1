/- order, walked. -/
import Derived.Test.YtaejhppfcmeopaaLxA
namespace Go.Proofs.Ytaejhppfcmeopaa
open Go.RowKit
section
variable {w : World} {ao : Option Addr} {n cap : Nat}
theorem od_new : Od w ((((w.alloc (.cells #[.slice ao n cap] 22)).alloc (.cells zc 64)).alloc (.cells #[.slice none 0 0] 34)).alloc (.cells #[.func (.func 40) #[] #[pp (w.heap.size + 1), pp w.heap.size, pp (w.heap.size + 1 + 1 + 1), pp (w.heap.size + 1 + 1)]] 70)) (w.heap.size + 1) w.heap.size (w.heap.size + 1 + 1 + 1) (w.heap.size + 1 + 1) ao n cap (0, []) (.slice none 0 0) := by
  refine ⟨?_, heap_new _ _ (by simp), ?_, ?_, ⟨rfl, .inl ⟨rfl, rfl⟩⟩, ((((Below.refl _ _).alloc (Nat.le_refl _) _).alloc (by simp) _).alloc (by simp <;> omega) _).alloc (by simp <;> omega) _, by omega, by omega⟩
  · rw [heap_under _ _ (by simp <;> omega), heap_under _ _ (by simp <;> omega), heap_under _ _ (by simp)]; exact heap_new _ _ rfl
  · unfold BoxS
    rw [← zc_eq, heap_under _ _ (by simp <;> omega), heap_under _ _ (by simp)]; exact heap_new _ _ (by simp)
  · rw [heap_under _ _ (by simp)]; exact heap_new _ _ (by simp)
set_option maxRecDepth 100000 in
set_option maxHeartbeats 2000000 in
theorem order_pos {bs : List Blk} {K : Nat} (S : Snd bs K) (hn : bs.length = n) (hn0 : 0 < n) (R : BlksAt w (.slice ao n cap) bs) : Calls Try.prog 25 #[.slice ao n cap] w fun e w' => ∃ v', e = .returned v' ∧ w'.ownsRow w.heap.size 3 1 v' (zs (ordP bs)).length (ints (zs (ordP bs))) ∧ Below w.heap.size w w' := by
  have hl := S.l
  have h512 : ∀ x, ∀ y ∈ goN bs x, y < 512 := fun x y hy => by have := goN_lt S x y hy; omega
  have hu0 := un_max 0
  have D0 := od_new (w := w) (ao := ao) (n := n) (cap := cap)
  have ho := order1_any uu_un S hn R 600 0 (0, []) _ _ (show un 0 < 600 by omega) hn0 sm_zero (show 0 + un 0 ≤ 512 by omega) D0
  have hk := (vsF_keeps h512 600 0 (0, []) (by omega) sm_zero).2.2
  have hne : bs ≠ [] := fun h => by rw [h] at hn; simp at hn; omega
  have HO : Hid (ordP bs = (dnP bs).reverse) := hide (by unfold ordP; rw [if_neg hne])
  have hpos : 0 < (dnP bs).length := by unfold dnP; rw [vsF_new (Nat.zero_testBit 0)]; simp
  have hm : (dnP bs).length ≤ 512 := by unfold dnP; simp only [List.length_nil] at hk; omega
  have HDn : Hid (vsF (goN bs) 600 0 (0, []) = ((vsF (goN bs) 600 0 (0, [])).1, dnP bs)) := hide rfl
  rw [HDn.out] at ho
  generalize (vsF (goN bs) 600 0 (0, [])).1 = s1 at ho
  have bn : (0 : Int) < (n : Int) := by omega
  clear HDn hk hu0 h512 hne hn S R hl hn0
  generalize dnP bs = L at *
  obtain ⟨m, hml⟩ : ∃ m, L.length = m := ⟨_, rfl⟩
  have HM := hide hml
  have HOC := hide ho
  have cb := cell_of (o := 0) D0.b rfl
  have cf := cell_of (o := 0) D0.f rfl
  clear ho
  rw [hml] at hpos hm
  clear hml
  go_enter Try.func25, Try.ntmps25
  go_upto_region 5 with (fail)
  generalize (((w.alloc (.cells #[.slice ao n cap] 22)).alloc (.cells zc 64)).alloc (.cells #[.slice none 0 0] 34)).alloc (.cells #[.func (.func 40) #[] #[pp (w.heap.size + 1), pp w.heap.size, pp (w.heap.size + 1 + 1 + 1), pp (w.heap.size + 1 + 1)]] 70) = W0 at *
  have lb := lt_of_block D0.b
  have lf := lt_of_block D0.f
  clear D0
  go_wp2_with (first
    | (go_at_call 43; refine hrv.mono ?_; rintro e w2 ⟨⟨v2, rfl⟩, hown, hkp⟩; clear hrv; have H2 := hide (And.intro hown hkp); have c5 := cell_of (o := 0) ((hkp.block _ (lt_of_block H1.out.l) (ne_ty H1.out.l hgt (by decide))).trans H1.out.l) rfl; have l5 := Nat.lt_of_lt_of_le (lt_of_block H1.out.l) hkp.size; clear hown hkp)
    | (go_at_call 40; refine HOC.out.mono ?_; rintro e w1 ⟨⟨v1, rfl⟩, vl1, V1⟩; clear HOC cb cf lb lf
       have hrow := V1.r
       obtain ⟨_, h2⟩ := V1.r
       rcases h2 with ⟨_, h2⟩ | ⟨g1, cap1, cur1, e1, hB1, hgt, _⟩
       · have := HM.out; simp only at h2; omega
       simp only at e1 hrow
       rw [HM.out] at e1 hrow
       subst e1
       have hrv := reverse_any hrow (by omega)
       have H1 := hide V1
       have c4 := cell_of (o := 0) V1.l rfl
       have l4 := lt_of_block V1.l
       clear V1 hrow))
  go_ret
  refine ⟨_, rfl, ?_, ?_⟩
  · have e : zs (ordP bs) = (zs L).reverse := by rw [HO.out]; simp [zs]
    have el : (zs (ordP bs)).length = m := by rw [e, List.length_reverse, zs_len, HM.out]
    rw [el, e]; exact H2.out.1
  · exact H2.out.2.below (Nat.le_refl _) H1.out.bel (fun j hj => by rw [hj]; exact hB1)
/-- Of no blocks there is none. -/
theorem reverse_nil : Calls Try.prog 43 #[.slice none 0 0] w fun e w' => (∃ v, e = .returned v) ∧ w' = w := by
  go_enter Try.func43, Try.ntmps43
  go_wp2
  go_loopg [2, 3] 0 (fun _ v2 v3 wr => v2 = .int .i64 0 ∧ v3 = .int .i64 (-1) ∧ wr = w)
  case atStart => exact ⟨rfl, rfl, rfl⟩
  case round =>
    obtain ⟨rfl, rfl, hw⟩ := hrel
    rw [hw]
    go_wp2
    go_returns
    exact ⟨⟨_, rfl⟩, rfl⟩
end
end Go.Proofs.Ytaejhppfcmeopaa
