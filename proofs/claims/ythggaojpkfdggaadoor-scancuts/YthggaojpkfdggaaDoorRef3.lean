/- The document's Quote. -/
import Derived.Test.YthggaojpkfdggaaDoorRef2
namespace Go.Proofs.YthggaojpkfdggaaDoor
open Go.RowKit

set_option maxHeartbeats 4000000 in
theorem quoteR_any (s : ByteArray) (hs : s.size ≤ 20000000) (w : World) : Calls Tryd.prog 14 #[.string s] w fun e w' => e = .returned (.string ⟨(quoteL s.data.toList).toArray⟩) ∧ Below w.heap.size w w' := by
  go_enter Tryd.func14, Tryd.ntmps14
  go_wp2_with fail
  have hown0 : (w.alloc (.cells #[.int .u8 34] 5)).ownsRow w.heap.size 5 1 (.slice (some ⟨w.heap.size, 0, none⟩) 1 1) 1 (Lib.byteCells [34]) :=
    ⟨rfl, .inr ⟨w.heap.size, 1, #[.int .u8 34], rfl, Nat.le_refl _, heap_alloc_new w _, Nat.le_refl _, by unfold maxLen; decide, rfl, rfl⟩⟩
  have hb0 : Below w.heap.size w (w.alloc (.cells #[.int .u8 34] 5)) := (Below.refl _ _).alloc (Nat.le_refl _) _
  go_loopw [3, 4] (fun v i wr => ∃ (k : Nat) (ao : Option Addr) (cv : Nat), k ≤ s.size ∧ i = .int .i64 k ∧ v = .slice ao (quoteTo s.data.toList k).length cv ∧ wr.ownsRow w.heap.size 5 1 (.slice ao (quoteTo s.data.toList k).length cv) (quoteTo s.data.toList k).length (Lib.byteCells (quoteTo s.data.toList k)) ∧ Below w.heap.size w wr) (fun _ i _ => s.size - (intOf i).toNat)
  case atStart => exact ⟨0, _, 1, Nat.zero_le _, rfl, rfl, hown0, hb0⟩
  case round =>
    obtain ⟨k, ao, cv, hkk, rfl, rfl, hown, hbr⟩ := hrel
    clear hown0 hb0
    have hql := quoteTo_len s.data.toList k
    have hzr := hbr.size
    by_cases hlt : k < s.size
    · have HQ := Lib.hid (quoteTo_succ s k hlt)
      have hb256 := (s[k]).toNat_lt
      generalize quoteTo s.data.toList k = out at *
      by_cases h10 : s[k] = 10
      · have e10 : ((s[k].toNat : Int) == 10) = true := beqT (d := 10) rfl h10
        have HQB : Hid (quoteB s[k] = [92, 110]) := by show _ = _; unfold quoteB; rw [if_pos h10]
        clear h10
        obtain ⟨i0, hi, hz0, hz1', hz2⟩ := info_parts Tryd.info5
        have hown2 := hown.alloc (.cells #[.int .u8 92, .int .u8 110] 5)
        have hltR := hown2.lt
        have hb2 : Below w.heap.size w (wr.alloc (.cells #[.int .u8 92, .int .u8 110] 5)) := hbr.alloc hzr _
        clear hown
        go_wp2_with (at_builtin; refine wpList_append_own _ rfl _ _ 35 rfl w.heap.size 5 i0 _ 1 1 Tryd.underlying35 hi hz0 hz1' hz2 rfl (by decide) _ _ _ rfl hown2 ⟨wr.heap.size, 0, none⟩ 2 2 [.int .u8 92, .int .u8 110] rfl rfl ?c1 ?c2 ?c3 ?c4 ?c5 ?_)
        case c1 =>
          intro j u hj
          match j, hj with
          | 0, hj => simp at hj; subst hj; simp [Addr.add]
          | 1, hj => simp at hj; subst hj; simp [Addr.add]
        case c2 => intro u hu; simp at hu; rcases hu with rfl | rfl <;> rfl
        case c3 => unfold maxLen; omega
        case c4 => omega
        case c5 => simp; omega
        intro v5 w5 hown5 hgr5 _
        have hb5 : Below w.heap.size w w5 := hb2.grown hgr5 (by simp; omega) (fun k hk => (hltR k hk).1)
        have hown6 : w5.ownsRow w.heap.size 5 1 v5 (out ++ [92, 110]).length (Lib.byteCells (out ++ [92, 110])) := by
          rw [← byteCells_append, List.length_append]; exact hown5
        rw [← HQB.out, ← HQ.out] at hown6
        clear hown5 hown2 hgr5 hltR hb2 hi hz0 hz1' hz2
        obtain ⟨ao6, cv6, hv6⟩ := owns_form hown6
        subst hv6
        go_wp2
        go_roundw
        case rel => exact ⟨k + 1, ao6, cv6, hlt, by go_num, rfl, hown6, hb5⟩
        case measure => simp [intOf]; omega
      have e10 : ((s[k].toNat : Int) == 10) = false := beqF (d := 10) rfl h10
      by_cases h9 : s[k] = 9
      · have e9 : ((s[k].toNat : Int) == 9) = true := beqT (d := 9) rfl h9
        have HQB : Hid (quoteB s[k] = [92, 116]) := by show _ = _; unfold quoteB; rw [if_neg h10, if_pos h9]
        clear h10 h9
        obtain ⟨i0, hi, hz0, hz1', hz2⟩ := info_parts Tryd.info5
        have hown2 := hown.alloc (.cells #[.int .u8 92, .int .u8 116] 5)
        have hltR := hown2.lt
        have hb2 : Below w.heap.size w (wr.alloc (.cells #[.int .u8 92, .int .u8 116] 5)) := hbr.alloc hzr _
        clear hown
        go_wp2_with (at_builtin; refine wpList_append_own _ rfl _ _ 35 rfl w.heap.size 5 i0 _ 1 1 Tryd.underlying35 hi hz0 hz1' hz2 rfl (by decide) _ _ _ rfl hown2 ⟨wr.heap.size, 0, none⟩ 2 2 [.int .u8 92, .int .u8 116] rfl rfl ?c1 ?c2 ?c3 ?c4 ?c5 ?_)
        case c1 =>
          intro j u hj
          match j, hj with
          | 0, hj => simp at hj; subst hj; simp [Addr.add]
          | 1, hj => simp at hj; subst hj; simp [Addr.add]
        case c2 => intro u hu; simp at hu; rcases hu with rfl | rfl <;> rfl
        case c3 => unfold maxLen; omega
        case c4 => omega
        case c5 => simp; omega
        intro v5 w5 hown5 hgr5 _
        have hb5 : Below w.heap.size w w5 := hb2.grown hgr5 (by simp; omega) (fun k hk => (hltR k hk).1)
        have hown6 : w5.ownsRow w.heap.size 5 1 v5 (out ++ [92, 116]).length (Lib.byteCells (out ++ [92, 116])) := by
          rw [← byteCells_append, List.length_append]; exact hown5
        rw [← HQB.out, ← HQ.out] at hown6
        clear hown5 hown2 hgr5 hltR hb2 hi hz0 hz1' hz2
        obtain ⟨ao6, cv6, hv6⟩ := owns_form hown6
        subst hv6
        go_wp2
        go_roundw
        case rel => exact ⟨k + 1, ao6, cv6, hlt, by go_num, rfl, hown6, hb5⟩
        case measure => simp [intOf]; omega
      have e9 : ((s[k].toNat : Int) == 9) = false := beqF (d := 9) rfl h9
      by_cases h34 : s[k] = 34
      · have e34 : ((s[k].toNat : Int) == 34) = true := beqT (d := 34) rfl h34
        have HQB : Hid (quoteB s[k] = [92, s[k]]) := by show _ = _; unfold quoteB; rw [if_neg h10, if_neg h9, if_pos (Or.inl h34)]
        clear h10 h9 h34
        obtain ⟨i0, hi, hz0, hz1', hz2⟩ := info_parts Tryd.info5
        have hown2 := hown.alloc (.cells #[.int .u8 92, .int .u8 (s[k]).toNat] 5)
        have hltR := hown2.lt
        have hb2 : Below w.heap.size w (wr.alloc (.cells #[.int .u8 92, .int .u8 (s[k]).toNat] 5)) := hbr.alloc hzr _
        clear hown
        go_wp2_with (at_builtin; refine wpList_append_own _ rfl _ _ 35 rfl w.heap.size 5 i0 _ 1 1 Tryd.underlying35 hi hz0 hz1' hz2 rfl (by decide) _ _ _ rfl hown2 ⟨wr.heap.size, 0, none⟩ 2 2 [.int .u8 92, .int .u8 (s[k]).toNat] rfl rfl ?c1 ?c2 ?c3 ?c4 ?c5 ?_)
        case c1 =>
          intro j u hj
          match j, hj with
          | 0, hj => simp at hj; subst hj; simp [Addr.add]
          | 1, hj => simp at hj; subst hj; simp [Addr.add]
        case c2 => intro u hu; simp at hu; rcases hu with rfl | rfl <;> rfl
        case c3 => unfold maxLen; omega
        case c4 => omega
        case c5 => simp; omega
        intro v5 w5 hown5 hgr5 _
        have hb5 : Below w.heap.size w w5 := hb2.grown hgr5 (by simp; omega) (fun k hk => (hltR k hk).1)
        have hown6 : w5.ownsRow w.heap.size 5 1 v5 (out ++ [92, s[k]]).length (Lib.byteCells (out ++ [92, s[k]])) := by
          rw [← byteCells_append, List.length_append]; exact hown5
        rw [← HQB.out, ← HQ.out] at hown6
        clear hown5 hown2 hgr5 hltR hb2 hi hz0 hz1' hz2
        obtain ⟨ao6, cv6, hv6⟩ := owns_form hown6
        subst hv6
        go_wp2
        go_roundw
        case rel => exact ⟨k + 1, ao6, cv6, hlt, by go_num, rfl, hown6, hb5⟩
        case measure => simp [intOf]; omega
      have e34 : ((s[k].toNat : Int) == 34) = false := beqF (d := 34) rfl h34
      by_cases h92 : s[k] = 92
      · have e92 : ((s[k].toNat : Int) == 92) = true := beqT (d := 92) rfl h92
        have HQB : Hid (quoteB s[k] = [92, s[k]]) := by show _ = _; unfold quoteB; rw [if_neg h10, if_neg h9, if_pos (Or.inr h92)]
        clear h10 h9 h34 h92
        obtain ⟨i0, hi, hz0, hz1', hz2⟩ := info_parts Tryd.info5
        have hown2 := hown.alloc (.cells #[.int .u8 92, .int .u8 (s[k]).toNat] 5)
        have hltR := hown2.lt
        have hb2 : Below w.heap.size w (wr.alloc (.cells #[.int .u8 92, .int .u8 (s[k]).toNat] 5)) := hbr.alloc hzr _
        clear hown
        go_wp2_with (at_builtin; refine wpList_append_own _ rfl _ _ 35 rfl w.heap.size 5 i0 _ 1 1 Tryd.underlying35 hi hz0 hz1' hz2 rfl (by decide) _ _ _ rfl hown2 ⟨wr.heap.size, 0, none⟩ 2 2 [.int .u8 92, .int .u8 (s[k]).toNat] rfl rfl ?c1 ?c2 ?c3 ?c4 ?c5 ?_)
        case c1 =>
          intro j u hj
          match j, hj with
          | 0, hj => simp at hj; subst hj; simp [Addr.add]
          | 1, hj => simp at hj; subst hj; simp [Addr.add]
        case c2 => intro u hu; simp at hu; rcases hu with rfl | rfl <;> rfl
        case c3 => unfold maxLen; omega
        case c4 => omega
        case c5 => simp; omega
        intro v5 w5 hown5 hgr5 _
        have hb5 : Below w.heap.size w w5 := hb2.grown hgr5 (by simp; omega) (fun k hk => (hltR k hk).1)
        have hown6 : w5.ownsRow w.heap.size 5 1 v5 (out ++ [92, s[k]]).length (Lib.byteCells (out ++ [92, s[k]])) := by
          rw [← byteCells_append, List.length_append]; exact hown5
        rw [← HQB.out, ← HQ.out] at hown6
        clear hown5 hown2 hgr5 hltR hb2 hi hz0 hz1' hz2
        obtain ⟨ao6, cv6, hv6⟩ := owns_form hown6
        subst hv6
        go_wp2
        go_roundw
        case rel => exact ⟨k + 1, ao6, cv6, hlt, by go_num, rfl, hown6, hb5⟩
        case measure => simp [intOf]; omega
      have e92 : ((s[k].toNat : Int) == 92) = false := beqF (d := 92) rfl h92
      by_cases hsh : 32 ≤ s[k].toNat ∧ s[k].toNat ≤ 126
      · have d1 : decide ((s[k].toNat : Int) < 32) = false := by simp; omega
        have d2 : decide (126 < (s[k].toNat : Int)) = false := by simp; omega
        have HQB : Hid (quoteB s[k] = [s[k]]) := by show _ = _; unfold quoteB; rw [if_neg h10, if_neg h9, if_neg (by rintro (h | h); exact h34 h; exact h92 h), if_pos hsh]
        clear h10 h9 h34 h92
        obtain ⟨i0, hi, hz0, hz1', hz2⟩ := info_parts Tryd.info5
        have hown2 := hown.alloc (.cells #[.int .u8 (s[k]).toNat] 5)
        have hltR := hown2.lt
        have hb2 : Below w.heap.size w (wr.alloc (.cells #[.int .u8 (s[k]).toNat] 5)) := hbr.alloc hzr _
        clear hown
        go_wp2_with (at_builtin; refine wpList_append_own _ rfl _ _ 35 rfl w.heap.size 5 i0 _ 1 1 Tryd.underlying35 hi hz0 hz1' hz2 rfl (by decide) _ _ _ rfl hown2 ⟨wr.heap.size, 0, none⟩ 1 1 [.int .u8 (s[k]).toNat] rfl rfl ?c1 ?c2 ?c3 ?c4 ?c5 ?_)
        case c1 =>
          intro j u hj
          match j, hj with
          | 0, hj => simp at hj; subst hj; simp [Addr.add]
        case c2 => intro u hu; simp at hu; subst hu; rfl
        case c3 => unfold maxLen; omega
        case c4 => omega
        case c5 => simp; omega
        intro v5 w5 hown5 hgr5 _
        have hb5 : Below w.heap.size w w5 := hb2.grown hgr5 (by simp; omega) (fun k hk => (hltR k hk).1)
        have hown6 : w5.ownsRow w.heap.size 5 1 v5 (out ++ [s[k]]).length (Lib.byteCells (out ++ [s[k]])) := by
          rw [← byteCells_append, List.length_append]; exact hown5
        rw [← HQB.out, ← HQ.out] at hown6
        clear hown5 hown2 hgr5 hltR hb2 hi hz0 hz1' hz2
        obtain ⟨ao6, cv6, hv6⟩ := owns_form hown6
        subst hv6
        go_wp2
        go_roundw
        case rel => exact ⟨k + 1, ao6, cv6, hlt, by go_num, rfl, hown6, hb5⟩
        case measure => simp [intOf]; omega
      have HQB : Hid (quoteB s[k] = [92, 120, hexC (s[k].toNat / 16), hexC (s[k].toNat % 16)]) := by show _ = _; unfold quoteB; rw [if_neg h10, if_neg h9, if_neg (by rintro (h | h); exact h34 h; exact h92 h), if_neg hsh]
      rw [HQB.out] at HQ
      have hx1 : ∀ W, (Instr.index 9 (.string ⟨#[48, 49, 50, 51, 52, 53, 54, 55, 56, 57, 97, 98, 99, 100, 101, 102]⟩) (.int .u8 ((s[k].toNat / 16 : Nat) : Int))).run Tryd.prog W = .ok (.int .u8 (hexC (s[k].toNat / 16)).toNat) W := fun W => run_hex (s[k].toNat / 16) (by omega) W
      have hx2 : ∀ W, (Instr.index 9 (.string ⟨#[48, 49, 50, 51, 52, 53, 54, 55, 56, 57, 97, 98, 99, 100, 101, 102]⟩) (.int .u8 ((s[k].toNat % 16 : Nat) : Int))).run Tryd.prog W = .ok (.int .u8 (hexC (s[k].toNat % 16)).toNat) W := fun W => run_hex (s[k].toNat % 16) (by omega) W
      have hq1 : IntKind.u8.wrap ((s[k].toNat : Int) / 16) = ((s[k].toNat / 16 : Nat) : Int) := by rw [IntKind.wrap_u8]; omega
      have hq2 : ((s[k].toNat : Int)).tmod 16 = ((s[k].toNat % 16 : Nat) : Int) := by rw [Int.tmod_eq_emod_of_nonneg (by omega)]; omega
      generalize hexC (s[k].toNat / 16) = c1 at *
      generalize hexC (s[k].toNat % 16) = c2 at *
      generalize ((s[k].toNat / 16 : Nat) : Int) = m1 at *
      generalize ((s[k].toNat % 16 : Nat) : Int) = m2 at *
      clear h10 h9 h34 h92 HQB
      by_cases hlo : (s[k].toNat : Int) < 32
      · clear hsh
        have hown2 : ((wr.drewN 1).alloc (.cells #[.int .u8 92, .int .u8 120, .int .u8 c1.toNat, .int .u8 c2.toNat] 5)).ownsRow w.heap.size 5 1 (.slice ao out.length cv) out.length (Lib.byteCells out) := World.ownsRow.alloc (w := wr.drewN 1) hown _
        have hltR := hown2.lt
        have hnews : ∀ j u, ([.int .u8 92, .int .u8 120, .int .u8 c1.toNat, .int .u8 c2.toNat] : List Value)[j]? = some u → ((wr.drewN 1).alloc (.cells #[.int .u8 92, .int .u8 120, .int .u8 c1.toNat, .int .u8 c2.toNat] 5)).cell? ((⟨wr.heap.size, 0, none⟩ : Addr).add j) = some u := by
          intro j u hj
          show (wr.alloc (.cells #[.int .u8 92, .int .u8 120, .int .u8 c1.toNat, .int .u8 c2.toNat] 5)).cell? _ = _
          match j, hj with
          | 0, hj => simp at hj; subst hj; simp [Addr.add]
          | 1, hj => simp at hj; subst hj; simp [Addr.add]
          | 2, hj => simp at hj; subst hj; simp [Addr.add]
          | 3, hj => simp at hj; subst hj; simp [Addr.add]
        have hone : ∀ u ∈ ([.int .u8 92, .int .u8 120, .int .u8 c1.toNat, .int .u8 c2.toNat] : List Value), u.oneCell' = true := by
          intro u hu; simp at hu; rcases hu with rfl | rfl | rfl | rfl <;> rfl
        have h63 : out.length + 4 ≤ maxLen := by unfold maxLen; omega
        have hby : (out.length + 4) * 1 ≤ 140737488355328 := by omega
        have hbs : w.heap.size ≤ ((wr.drewN 1).alloc (.cells #[.int .u8 92, .int .u8 120, .int .u8 c1.toNat, .int .u8 c2.toNat] 5)).heap.size := by
          show w.heap.size ≤ (wr.alloc (.cells #[.int .u8 92, .int .u8 120, .int .u8 c1.toNat, .int .u8 c2.toNat] 5)).heap.size
          simp; omega
        have hbB : Below w.heap.size w ((wr.drewN 1).alloc (.cells #[.int .u8 92, .int .u8 120, .int .u8 c1.toNat, .int .u8 c2.toNat] 5)) := (below_drewN hbr 1).alloc hzr _
        obtain ⟨i0, hi, hz0, hz1', hz2⟩ := info_parts Tryd.info5
        clear hown
        go_wp2_with fail
        go_region_held3 (fun _ => True) (trivial) ((refine step_append_lies _ (by rfl) _ _ _ (by rfl) w.heap.size 5 i0 _ 1 1 Tryd.underlying35 hi hz0 hz1' hz2 (by rfl) (by omega) _ _ _ (by rfl) hown2 ⟨wr.heap.size, 0, none⟩ 4 4 [.int .u8 92, .int .u8 120, .int .u8 c1.toNat, .int .u8 c2.toNat] (by rfl) (by rfl) hnews hone (by omega) h63 hby hbs _ rfl ?_; intro gg cap w5 hown5 hgr5 hat hltn))
        all_goals
          have hb5 : Below w.heap.size w w5 := hbB.grown hgr5 hbs (fun k hk => (hltR k hk).1)
          have hown6 : w5.ownsRow w.heap.size 5 1 (.slice (some ⟨gg, 0, none⟩) (out.length + 4) cap) (out ++ [92, 120, c1, c2]).length (Lib.byteCells (out ++ [92, 120, c1, c2])) := by
            rw [← byteCells_append, List.length_append]; exact hown5
          rw [← HQ.out] at hown6
          have hlq : (quoteTo s.data.toList (k + 1)).length = out.length + 4 := by rw [HQ.out, List.length_append]; rfl
          have HLQ := Lib.hid hlq
          clear hown5 hown2 hgr5 hltR hi hz0 hz1' hz2 hlq hnews hone hat
          go_wp2
          go_roundw
          case rel => exact ⟨k + 1, _, cap, hlt, by go_num, by rw [HLQ.out], by rw [HLQ.out] at hown6 ⊢; exact hown6, hb5⟩
          case measure => simp [intOf]; omega
      · have hhi : 126 < (s[k].toNat : Int) := by omega
        have hlo' : decide ((s[k].toNat : Int) < 32) = false := by simpa using hlo
        clear hsh
        have hown2 : ((wr.drewN 1).alloc (.cells #[.int .u8 92, .int .u8 120, .int .u8 c1.toNat, .int .u8 c2.toNat] 5)).ownsRow w.heap.size 5 1 (.slice ao out.length cv) out.length (Lib.byteCells out) := World.ownsRow.alloc (w := wr.drewN 1) hown _
        have hltR := hown2.lt
        have hnews : ∀ j u, ([.int .u8 92, .int .u8 120, .int .u8 c1.toNat, .int .u8 c2.toNat] : List Value)[j]? = some u → ((wr.drewN 1).alloc (.cells #[.int .u8 92, .int .u8 120, .int .u8 c1.toNat, .int .u8 c2.toNat] 5)).cell? ((⟨wr.heap.size, 0, none⟩ : Addr).add j) = some u := by
          intro j u hj
          show (wr.alloc (.cells #[.int .u8 92, .int .u8 120, .int .u8 c1.toNat, .int .u8 c2.toNat] 5)).cell? _ = _
          match j, hj with
          | 0, hj => simp at hj; subst hj; simp [Addr.add]
          | 1, hj => simp at hj; subst hj; simp [Addr.add]
          | 2, hj => simp at hj; subst hj; simp [Addr.add]
          | 3, hj => simp at hj; subst hj; simp [Addr.add]
        have hone : ∀ u ∈ ([.int .u8 92, .int .u8 120, .int .u8 c1.toNat, .int .u8 c2.toNat] : List Value), u.oneCell' = true := by
          intro u hu; simp at hu; rcases hu with rfl | rfl | rfl | rfl <;> rfl
        have h63 : out.length + 4 ≤ maxLen := by unfold maxLen; omega
        have hby : (out.length + 4) * 1 ≤ 140737488355328 := by omega
        have hbs : w.heap.size ≤ ((wr.drewN 1).alloc (.cells #[.int .u8 92, .int .u8 120, .int .u8 c1.toNat, .int .u8 c2.toNat] 5)).heap.size := by
          show w.heap.size ≤ (wr.alloc (.cells #[.int .u8 92, .int .u8 120, .int .u8 c1.toNat, .int .u8 c2.toNat] 5)).heap.size
          simp; omega
        have hbB : Below w.heap.size w ((wr.drewN 1).alloc (.cells #[.int .u8 92, .int .u8 120, .int .u8 c1.toNat, .int .u8 c2.toNat] 5)) := (below_drewN hbr 1).alloc hzr _
        obtain ⟨i0, hi, hz0, hz1', hz2⟩ := info_parts Tryd.info5
        clear hown
        go_wp2_with fail
        go_region_held3 (fun _ => True) (trivial) ((refine step_append_lies _ (by rfl) _ _ _ (by rfl) w.heap.size 5 i0 _ 1 1 Tryd.underlying35 hi hz0 hz1' hz2 (by rfl) (by omega) _ _ _ (by rfl) hown2 ⟨wr.heap.size, 0, none⟩ 4 4 [.int .u8 92, .int .u8 120, .int .u8 c1.toNat, .int .u8 c2.toNat] (by rfl) (by rfl) hnews hone (by omega) h63 hby hbs _ rfl ?_; intro gg cap w5 hown5 hgr5 hat hltn))
        all_goals
          have hb5 : Below w.heap.size w w5 := hbB.grown hgr5 hbs (fun k hk => (hltR k hk).1)
          have hown6 : w5.ownsRow w.heap.size 5 1 (.slice (some ⟨gg, 0, none⟩) (out.length + 4) cap) (out ++ [92, 120, c1, c2]).length (Lib.byteCells (out ++ [92, 120, c1, c2])) := by
            rw [← byteCells_append, List.length_append]; exact hown5
          rw [← HQ.out] at hown6
          have hlq : (quoteTo s.data.toList (k + 1)).length = out.length + 4 := by rw [HQ.out, List.length_append]; rfl
          have HLQ := Lib.hid hlq
          clear hown5 hown2 hgr5 hltR hi hz0 hz1' hz2 hlq hnews hone hat
          go_wp2
          go_roundw
          case rel => exact ⟨k + 1, _, cap, hlt, by go_num, by rw [HLQ.out], by rw [HLQ.out] at hown6 ⊢; exact hown6, hb5⟩
          case measure => simp [intOf]; omega
    · have HQ := Lib.hid (quoteTo_all s k hlt)
      generalize quoteTo s.data.toList k = out at *
      obtain ⟨i0, hi, hz0, hz1', hz2⟩ := info_parts Tryd.info5
      have hown2 := hown.alloc (.cells #[.int .u8 34] 5)
      have hltR := hown2.lt
      have hb2 : Below w.heap.size w (wr.alloc (.cells #[.int .u8 34] 5)) := hbr.alloc hzr _
      clear hown
      go_wp2_with (at_builtin; refine wpList_append_own _ rfl _ _ 35 rfl w.heap.size 5 i0 _ 1 1 Tryd.underlying35 hi hz0 hz1' hz2 rfl (by decide) _ _ _ rfl hown2 ⟨wr.heap.size, 0, none⟩ 1 1 [.int .u8 34] rfl rfl ?c1 ?c2 ?c3 ?c4 ?c5 ?_)
      case c1 =>
        intro j u hj
        match j, hj with
        | 0, hj => simp at hj; subst hj; simp [Addr.add]
      case c2 => intro u hu; simp at hu; subst hu; rfl
      case c3 => unfold maxLen; omega
      case c4 => omega
      case c5 => simp; omega
      intro v5 w5 hown5 hgr5 _
      have hb5 : Below w.heap.size w w5 := hb2.grown hgr5 (by simp; omega) (fun k hk => (hltR k hk).1)
      have hown6 : w5.ownsRow w.heap.size 5 1 v5 (out ++ [34]).length (Lib.byteCells (out ++ [34])) := by
        rw [← byteCells_append, List.length_append]; exact hown5
      rw [HQ.out] at hown6
      clear hown5 hown2 hgr5 hltR hb2 hi hz0 hz1' hz2
      obtain ⟨g5, cap5, hv5⟩ : ∃ g5 cap5, v5 = .slice (some ⟨g5, 0, none⟩) (quoteL s.data.toList).length cap5 := by
        rcases hown6.2 with ⟨_, h0⟩ | ⟨g5, cap5, _, h5, _⟩
        · cases h0
        · exact ⟨g5, cap5, h5⟩
      subst hv5
      have hcv : (convert 35 9 (.slice (some ⟨g5, 0, none⟩) (quoteL s.data.toList).length cap5)).run Tryd.prog w5 = .ok (.string ⟨(quoteL s.data.toList).toArray⟩) w5 :=
        run_convert_bytes_back w5 35 9 5 ⟨g5, 0, none⟩ cap5 _ Tryd.underlying35 Tryd.underlying5 Tryd.underlying9 (fun j hj => hown6.cells (g := g5) rfl j _ (by simp [Lib.byteCells, List.getElem?_eq_getElem hj]))
      generalize (quoteL s.data.toList).length = ql at *
      go_wp2
      go_ret
      exact ⟨rfl, hb5⟩

end Go.Proofs.YthggaojpkfdggaaDoor
