/- Doms of the program, whole. -/
import Derived.Test.YtaejhppfcmeopaaLxL
namespace Go.Proofs.Ytaejhppfcmeopaa
open Go.RowKit
/-- What Doms tells. -/
def dmQ (bs : List Blk) : List Int := if fltP bs 4096 = 0 then dmP bs else []
theorem ordP_nil : ordP [] = [] := by unfold ordP; rw [if_pos rfl]
section
variable {w : World}
theorem IntsAt.nil (w : World) (a : Option Addr) (c : Nat) : IntsAt w (.slice a 0 c) [] := ⟨a, c, rfl, by simp, fun j x hx => by simp at hx⟩
set_option maxRecDepth 20000 in
set_option maxHeartbeats 4000000 in
theorem doms_zero {v : Value} {K : Nat} (S : Snd [] K) (R : BlksAt w v []) : Calls Try.prog 26 #[v] w fun e w' => (∃ v', e = .returned v' ∧ Hid (IntsAt w' v' (dmP []))) ∧ Below w.heap.size w w' := by
  have hgo := goOn_any S R
  have HOR := hide (fun (w1 : World) (h : Below w.heap.size w w1) => order_any S (R.below h))
  obtain ⟨ao, cap, rfl, _⟩ := R
  clear S
  rw [List.length_nil] at hgo HOR ⊢
  go_enter Try.func26, Try.ntmps26
  go_wp2_with (first
    | (go_at_call 44; with_reducible refine hgo.mono ?_; rintro e w1 ⟨rfl, G, hb1⟩; have H1 := hide hb1; clear G hb1)
    | (go_at_call 25; with_reducible refine (HOR.out _ H1.out).mono ?_; rintro e w2 ⟨vo, rfl, hown, hb2⟩
       obtain ⟨ag, ac, evo⟩ := row_form hown
       rw [zs_len, ordP_nil, List.length_nil] at evo
       subst evo
       have H2 := hide (H1.out.trans (hb2.mono H1.out.size))
       clear hown hb2)
    | (go_at_call 45
       refine (repeat0 (cell_of (o := 0) (heap_new w2 (.cells #[.int .i64 (-1)] 3) rfl) rfl)).mono ?_
       rintro e w3 ⟨⟨g3, rfl⟩, hb3⟩
       have H3 := hide (H2.out.trans (((Below.refl w2.heap.size w2).alloc (Nat.le_refl _) (.cells #[.int .i64 (-1)] 3) |>.trans (hb3.mono (by simp))).mono H2.out.size))
       clear hb3))
  refine wp_loop_rounds 1 ?_
  rw [rounds_succ]
  go_wp2
  go_ret
  exact ⟨⟨_, rfl, IntsAt.nil _ _ _⟩, H3.out⟩
theorem doms_any {v : Value} {bs : List Blk} {K : Nat} (S : Snd bs K) (R : BlksAt w v bs) : Calls Try.prog 26 #[v] w fun e w' => (∃ v', e = .returned v' ∧ Hid (IntsAt w' v' (dmP bs))) ∧ Below w.heap.size w w' := by
  by_cases h0 : bs = []
  · subst h0; exact doms_zero S R
  · exact doms_pos S R h0
set_option maxHeartbeats 1000000 in
theorem domsp_any {v : Value} {bs : List Blk} (R : BlksAt w v bs) : Calls Try.prog 16 #[v] w fun e w' => (∃ v', e = .returned (.tuple #[v', .int .i64 (fltP bs 4096)]) ∧ Hid (IntsAt w' v' (dmQ bs))) ∧ Below w.heap.size w w' := by
  have hf := fault_any (w := w) 4096 R
  by_cases h0 : fltP bs 4096 = 0
  · obtain ⟨K, hK, S⟩ := snd_of h0
    have HO := hide (fun (W : World) (h : Below w.heap.size w W) => doms_any S (R.below h))
    have HQ : Hid (dmQ bs = dmP bs) := hide (if_pos h0)
    rw [h0] at hf ⊢
    obtain ⟨ao, cap, rfl, _⟩ := R
    clear h0 hK
    go_enter Try.func16, Try.ntmps16
    go_wp2_with (first
      | (go_at_call 21; (with_reducible refine hf.mono ?_); rintro e w1 ⟨rfl, hb1⟩; have H1 := hide hb1; clear hb1)
      | (go_at_call 26; (with_reducible refine (HO.out w1 H1.out).mono ?_); rintro e w2 ⟨⟨v2, rfl, HI⟩, hb2⟩; have H2 := hide hb2; clear hb2))
    refine bodyPost_ret (by simp [results, Try.results16, go_sem]; try rfl) rfl ?_
    exact ⟨⟨_, rfl, by rw [HQ.out]; exact HI⟩, H1.out.trans (H2.out.mono H1.out.size)⟩
  · have HQ : Hid (dmQ bs = []) := hide (if_neg h0)
    generalize fltP bs 4096 = z at *
    obtain ⟨ao, cap, rfl, _⟩ := R
    go_enter Try.func16, Try.ntmps16
    go_wp2_with (go_at_call 21; (with_reducible refine hf.mono ?_); rintro e w1 ⟨rfl, hb1⟩; have H1 := hide hb1; clear hb1)
    refine bodyPost_ret (by simp [results, Try.results16, go_sem]; try rfl) rfl ?_
    exact ⟨⟨_, rfl, by rw [HQ.out]; exact IntsAt.nil _ _ _⟩, H1.out⟩
end
end Go.Proofs.Ytaejhppfcmeopaa
