/- Quote. -/
import Derived.Test.YthggaojpkfdggaaDoorQuo
import Derived.Laws.IdiomStrings
namespace Go.Proofs.YthggaojpkfdggaaDoor
open Go.RowKit

def quoteL (l : List UInt8) : List UInt8 := 34 :: (l.flatMap quoteB ++ [34])
def quoteTo (l : List UInt8) (k : Nat) : List UInt8 := 34 :: (l.take k).flatMap quoteB

theorem quoteB_le (b : UInt8) : (quoteB b).length ≤ 4 ∧ 1 ≤ (quoteB b).length := by
  unfold quoteB
  repeat' split
  all_goals simp

theorem quoteTo_len (l : List UInt8) (k : Nat) : (quoteTo l k).length ≤ 4 * k + 1 := by
  unfold quoteTo
  have h : ∀ m : List UInt8, (m.flatMap quoteB).length ≤ 4 * m.length := by
    intro m
    induction m with
    | nil => simp
    | cons c r ih => have := (quoteB_le c).1; simp at ih ⊢; omega
  have := h (l.take k)
  simp at this ⊢
  omega

theorem quoteTo_succ (s : ByteArray) (k : Nat) (h : k < s.size) : quoteTo s.data.toList (k + 1) = quoteTo s.data.toList k ++ quoteB s[k] := by
  unfold quoteTo
  rw [List.take_succ_eq_append_getElem (by simpa using h)]
  simp
  rfl

theorem quoteTo_all (s : ByteArray) (k : Nat) (h : ¬ k < s.size) : quoteTo s.data.toList k ++ [34] = quoteL s.data.toList := by
  unfold quoteTo quoteL
  rw [List.take_of_length_le (by simp; omega)]
  simp

set_option maxHeartbeats 2000000 in
theorem quote_any (s : ByteArray) (hs : s.size ≤ 20000000) (w : World) : Calls Tryd.prog 13 #[.string s] w fun e w' => e = .returned (.string ⟨(quoteL s.data.toList).toArray⟩) ∧ Below w.heap.size w w' := by
  go_enter Tryd.func13, Tryd.ntmps13
  go_wp2_with fail
  refine (between_any _ _ w.heap.size _ (Nat.le_refl _)).mono ?_
  rintro e w1 ⟨g, lb, rfl, he, hk, b1⟩
  have hz1 := b1.size
  go_wp2_with fail
  have hown0 : (w1.alloc (.cells #[.int .u8 34] 5)).ownsRow w1.heap.size 5 1 (.slice (some ⟨w1.heap.size, 0, none⟩) 1 1) 1 (Lib.byteCells [34]) :=
    ⟨rfl, .inr ⟨w1.heap.size, 1, #[.int .u8 34], rfl, Nat.le_refl _, heap_alloc_new w1 _, Nat.le_refl _, by unfold maxLen; decide, rfl, rfl⟩⟩
  have hb0 : Below w1.heap.size w1 (w1.alloc (.cells #[.int .u8 34] 5)) := (Below.refl _ _).alloc (Nat.le_refl _) _
  go_loopw [4, 10] (fun v i wr => ∃ (k : Nat) (ao : Option Addr) (cv : Nat), k ≤ s.size ∧ i = .int .i64 k ∧ v = .slice ao (quoteTo s.data.toList k).length cv ∧ wr.ownsRow w1.heap.size 5 1 (.slice ao (quoteTo s.data.toList k).length cv) (quoteTo s.data.toList k).length (Lib.byteCells (quoteTo s.data.toList k)) ∧ Below w1.heap.size w1 wr) (fun _ i _ => s.size - (intOf i).toNat)
  case atStart => exact ⟨0, _, 1, Nat.zero_le _, rfl, rfl, hown0, hb0⟩
  case round =>
    obtain ⟨k, ao, cv, hkk, rfl, rfl, hown, hbr⟩ := hrel
    clear hown0 hb0
    have hql := quoteTo_len s.data.toList k
    have hzr := hbr.size
    by_cases hlt : k < s.size
    · have HQ := Lib.hid (quoteTo_succ s k hlt)
      have cA := aq_any w1.heap.size _ (quoteTo s.data.toList k) s[k] g lb wr hown hzr (by omega) he (hk wr s[k] (Same.of_below hbr))
      rw [← HQ.out] at cA
      generalize quoteTo s.data.toList k = out at *
      go_wp2_with fail
      refine cA.mono ?_
      rintro e w2 ⟨v2, rfl, hown2, hb2⟩
      obtain ⟨ao2, cv2, hv2⟩ := owns_form hown2
      subst hv2
      clear cA
      go_wp2
      go_roundw
      case rel => exact ⟨k + 1, ao2, cv2, hlt, by go_num, rfl, hown2, hbr.trans hb2⟩
      case measure => simp [intOf]; omega
    · have HQ := Lib.hid (quoteTo_all s k hlt)
      generalize quoteTo s.data.toList k = out at *
      obtain ⟨i0, hi, hz0, hz1', hz2⟩ := info_parts Tryd.info5
      have hown2 := hown.alloc (.cells #[.int .u8 34] 5)
      have hltR := hown2.lt
      have hb2 : Below w1.heap.size w1 (wr.alloc (.cells #[.int .u8 34] 5)) := hbr.alloc hzr _
      clear hown
      go_wp2_with (at_builtin; refine wpList_append_own _ rfl _ _ 35 rfl w1.heap.size 5 i0 _ 1 1 Tryd.underlying35 hi hz0 hz1' hz2 rfl (by decide) _ _ _ rfl hown2 ⟨wr.heap.size, 0, none⟩ 1 1 [.int .u8 34] rfl rfl ?c1 ?c2 ?c3 ?c4 ?c5 ?_)
      case c1 =>
        intro j u hj
        match j, hj with
        | 0, hj => simp at hj; subst hj; simp [Addr.add]
      case c2 => intro u hu; simp at hu; subst hu; rfl
      case c3 => unfold maxLen; omega
      case c4 => omega
      case c5 => simp; omega
      intro v5 w5 hown5 hgr5 _
      have hb5 : Below w1.heap.size w1 w5 := hb2.grown hgr5 (by simp; omega) (fun k hk => (hltR k hk).1)
      have hown6 : w5.ownsRow w1.heap.size 5 1 v5 (out ++ [34]).length (Lib.byteCells (out ++ [34])) := by
        rw [← byteCells_append, List.length_append]; exact hown5
      rw [HQ.out] at hown6
      clear hown5 hown2 hgr5 hltR hb2 hi hz0 hz1' hz2
      obtain ⟨g5, cap5, hv5⟩ : ∃ g5 cap5, v5 = .slice (some ⟨g5, 0, none⟩) (quoteL s.data.toList).length cap5 := by
        rcases hown6.2 with ⟨_, h0⟩ | ⟨g5, cap5, _, h5, _⟩
        · cases h0
        · exact ⟨g5, cap5, h5⟩
      subst hv5
      have hcv : (convert 35 9 (.slice (some ⟨g5, 0, none⟩) (quoteL s.data.toList).length cap5)).run Tryd.prog w5 = .ok (.string ⟨(quoteL s.data.toList).toArray⟩) w5 :=
        run_convert_bytes_back w5 35 9 5 ⟨g5, 0, none⟩ cap5 _ Tryd.underlying35 Tryd.underlying5 Tryd.underlying9 (fun j hj => hown6.cells (g := g5) rfl j _ (by simp [Lib.byteCells, List.getElem?_eq_getElem hj]))
      generalize (quoteL s.data.toList).length = ql at *
      go_wp2
      go_ret
      exact ⟨rfl, b1.trans (hb5.mono hz1)⟩

end Go.Proofs.YthggaojpkfdggaaDoor
