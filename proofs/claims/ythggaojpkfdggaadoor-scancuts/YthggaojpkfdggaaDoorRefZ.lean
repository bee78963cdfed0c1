/- The document's Scan. -/
import Derived.Test.YthggaojpkfdggaaDoorRefL
namespace Go.Proofs.YthggaojpkfdggaaDoor
open Go.RowKit

set_option maxRecDepth 20000 in
set_option maxHeartbeats 4000000 in
theorem scanR_any (s : ByteArray) (hs : s.size ≤ maxLen) (w : World) : Calls Tryd.prog 10 #[.string s] w (Scanned (scanRes s.data.toList) w) := by
  have hll : s.data.toList.length = s.size := by simp
  by_cases hlong : 65536 < s.size
  · have HR : Hid (scanRes s.data.toList = ([], 0, 13)) := by unfold scanRes; rw [hll]; exact if_pos hlong
    unfold maxLen at hs
    clear hll
    go_enter Tryd.func10, Tryd.ntmps10
    go_wp2
    go_ret3
    exact ⟨_, by rw [HR.out]; rfl, by rw [HR.out]; exact World.ownsRow_nil _ _ _ _, Below.refl _ _⟩
  · have HR : Hid (scanRes s.data.toList = scanF s.data.toList (s.data.toList.length + 1) (skipTo s.data.toList 0) []) := by unfold scanRes; rw [hll]; exact if_neg hlong
    have HL : Hid (s.data.toList.length = s.size) := hll
    clear hll
    have hle : s.size ≤ 65536 := by omega
    have hd : decide (65536 < (s.size : Int)) = false := by simp; omega
    clear hlong
    unfold maxLen at hs
    have cB : ∀ k, k ≤ s.size → ∀ W, Calls Tryd.prog 20 #[.string s, .int .i64 k] W _ := fun k hk W => blanksR_any s hle k hk W
    have HB := Lib.hid cB
    clear cB
    have hk0 := skipTo_le s.data.toList 0 (Nat.zero_le _)
    rw [HL.out] at hk0
    have HS : Hid (scanRes s.data.toList = scanF s.data.toList (s.size + 1) (skipTo s.data.toList 0) []) := by rw [HR.out, HL.out]; rfl
    clear HR
    have hown0 : (w.alloc (.cells #[] 31)).ownsRow w.heap.size 31 4 (.slice (some ⟨w.heap.size, 0, none⟩) 0 0) 0 (tksCells []) :=
      ⟨rfl, .inr ⟨w.heap.size, 0, #[], rfl, Nat.le_refl _, heap_alloc_new w _, Nat.le_refl _, by unfold maxLen; decide, rfl, rfl⟩⟩
    have hb0 : Below w.heap.size w (w.alloc (.cells #[] 31)) := (Below.refl _ _).alloc (Nat.le_refl _) _
    go_enter Tryd.func10, Tryd.ntmps10
    go_wp2_with fail
    refine (HB.out 0 (Nat.zero_le _) _).mono ?_
    rintro e w1 ⟨rfl, hw⟩
    subst hw
    generalize skipTo s.data.toList 0 = k0 at *
    go_wp2_with fail
    go_loopw [5, 6] (fun v i wr => ∃ (k f : Nat) (acc : List TkA) (g cv : Nat), k ≤ s.size ∧ i = .int .i64 k ∧ v = .slice (some ⟨g, 0, none⟩) acc.length cv ∧ wr.ownsRow w.heap.size 31 4 (.slice (some ⟨g, 0, none⟩) acc.length cv) acc.length (tksCells acc) ∧ Below w.heap.size w wr ∧ acc.length ≤ 20000 ∧ Hid (s.size - k < f ∧ scanRes s.data.toList = scanF s.data.toList f k acc)) (fun _ i _ => s.size - (intOf i).toNat)
    case atStart => exact ⟨k0, s.size + 1, [], w.heap.size, 0, hk0, rfl, rfl, hown0, hb0, Nat.zero_le _, by omega, HS.out⟩
    case round =>
      obtain ⟨k, f, acc, g, cv, hk, rfl, rfl, hown, hbr, hacc, HF⟩ := hrel
      clear HS hk0 hown0 hb0
      have hzr := hbr.size
      by_cases hlt : k < s.size
      · by_cases h20 : acc.length = 20000
        · have h20' : ((acc.length : Int) == 20000) = true := by rw [h20]; rfl
          have HX : Hid (scanRes s.data.toList = ([], k, 4)) := HF.out.2.trans (scanF_large (by have := HF.out.1; omega) (by rw [HL.out]; exact hlt) h20)
          clear h20
          go_wp2
          go_ret3
          exact ⟨_, by rw [HX.out]; rfl, by rw [HX.out]; exact World.ownsRow_nil _ _ _ _, hbr⟩
        · have h20' : ((acc.length : Int) == 20000) = false := by rw [beq_eq_false_iff_ne]; omega
          have cT := tokenR_any s hle k hlt wr
          cases ht : tokL s.data.toList k with
          | none =>
            rw [ht] at cT
            have HX : Hid (scanRes s.data.toList = ([], k, 3)) := HF.out.2.trans (scanF_fault (by have := HF.out.1; omega) (by rw [HL.out]; exact hlt) h20 ht)
            change Calls Tryd.prog 21 _ _ (fun e w' => (∃ kd t n, e = .returned (.tuple #[tokV kd t n k, .int .i64 (-1)])) ∧ _) at cT
            clear ht h20
            go_wp2_with fail
            refine cT.mono ?_
            rintro e w3 ⟨⟨kd, t, n, rfl⟩, hb3⟩
            go_wp2
            go_ret3
            exact ⟨_, by rw [HX.out]; rfl, by rw [HX.out]; exact World.ownsRow_nil _ _ _ _, (hbr.trans (hb3.mono hzr)).alloc (by have := hb3.size; omega) _⟩
          | some x =>
            obtain ⟨kd, tx, nu, en⟩ := x
            rw [ht] at cT
            have hen := tokL_end (by rw [HL.out]; exact hlt) ht
            rw [HL.out] at hen
            obtain ⟨hen1, hen2⟩ := hen
            have HX : Hid (∃ g, f = g + 1 ∧ scanRes s.data.toList = scanF s.data.toList g (skipTo s.data.toList en) (acc ++ [(kd, tx, nu, k)])) := by
              obtain ⟨h1, h2⟩ := HF.out
              match f, h1, h2 with
              | g + 1, _, h2 => exact ⟨g, rfl, h2.trans (scanF_step (by rw [HL.out]; exact hlt) h20 ht)⟩
            change Calls Tryd.prog 21 _ _ (fun e w' => e = .returned (.tuple #[tokV kd ⟨tx.toArray⟩ nu k, .int .i64 en]) ∧ _) at cT
            clear ht
            go_wp2_with fail
            refine cT.mono ?_
            rintro e w3 ⟨rfl, hb3⟩
            have hown2 : ((w3.alloc (.cells #[.int .i64 kd, .string ⟨tx.toArray⟩, .int .i64 nu, .int .i64 k] 31)).alloc (.cells #[.int .i64 kd, .string ⟨tx.toArray⟩, .int .i64 nu, .int .i64 k] 31)).ownsRow w.heap.size 31 4 (.slice (some ⟨g, 0, none⟩) acc.length cv) acc.length (tksCells acc) := ((ownsRow_later hb3 hown).alloc _).alloc _
            have hb4 : Below w.heap.size w ((w3.alloc (.cells #[.int .i64 kd, .string ⟨tx.toArray⟩, .int .i64 nu, .int .i64 k] 31)).alloc (.cells #[.int .i64 kd, .string ⟨tx.toArray⟩, .int .i64 nu, .int .i64 k] 31)) := ((hbr.trans (hb3.mono hzr)).alloc (by have := hb3.size; omega) _).alloc (by have := hb3.size; simp; omega) _
            have hlw := hown2.lt
            have hz3 := hb3.size
            clear hown cT
            obtain ⟨i0, hi, hz0, hz1, hz2⟩ := info_parts Tryd.info31
            go_wp2_with (at_builtin; refine wpList_append_own _ rfl _ _ 22 rfl w.heap.size 31 i0 _ 4 40 Tryd.underlying22 hi hz0 hz1 hz2 rfl (by decide) _ _ _ rfl hown2 ⟨w3.heap.size + 1, 0, none⟩ 1 1 [.int .i64 kd, .string ⟨tx.toArray⟩, .int .i64 nu, .int .i64 k] rfl rfl ?c1 ?c2 ?c3 ?c4 ?c5 ?_)
            case c1 =>
              intro j u hj
              match j, hj with
              | 0, hj => simp at hj; subst hj; simp [Addr.add]
              | 1, hj => simp at hj; subst hj; simp [Addr.add]
              | 2, hj => simp at hj; subst hj; simp [Addr.add]
              | 3, hj => simp at hj; subst hj; simp [Addr.add]
            case c2 => intro u hu; simp at hu; rcases hu with rfl | rfl | rfl | rfl <;> rfl
            case c3 => unfold maxLen; omega
            case c4 => omega
            case c5 => simp; omega
            intro v5 w5 hown5 hgr5 _
            have hb5 : Below w.heap.size w w5 := hb4.grown hgr5 (by simp; omega) (fun k hk => (hlw k hk).1)
            clear hown2 hb4 hgr5 hlw hi hz0 hz1 hz2 i0
            have hcells : tksCells acc ++ [.int .i64 kd, .string ⟨tx.toArray⟩, .int .i64 nu, .int .i64 k] = tksCells (acc ++ [(kd, tx, nu, k)]) := by simp [tksCells, tkCells]
            rw [hcells] at hown5
            clear hcells
            obtain ⟨g5, cv5, hv5, _, _⟩ := hown5.form (by omega)
            subst hv5
            have hk5 := skipTo_le s.data.toList en (by rw [HL.out]; exact hen2)
            rw [HL.out] at hk5
            have hk6 := skipTo_ge s.data.toList en
            have HN : Hid (∃ g, s.size - skipTo s.data.toList en < g ∧ scanRes s.data.toList = scanF s.data.toList g (skipTo s.data.toList en) (acc ++ [(kd, tx, nu, k)])) := by
              obtain ⟨g, h1, h2⟩ := HX.out
              exact ⟨g, by have := HF.out.1; omega, h2⟩
            clear HX
            have cK := HB.out en hen2 w5
            generalize skipTo s.data.toList en = k5 at *
            go_wp2_with fail
            refine cK.mono ?_
            rintro e w6 ⟨rfl, hw⟩
            subst hw
            obtain ⟨g6, hg1, hg2⟩ := HN.out
            have HG : Hid (s.size - k5 < g6 ∧ scanRes s.data.toList = scanF s.data.toList g6 k5 (acc ++ [(kd, tx, nu, k)])) := ⟨hg1, hg2⟩
            clear hg1 hg2 HN
            go_wp2
            go_roundw
            case rel => exact ⟨k5, g6, acc ++ [(kd, tx, nu, k)], g5, cv5, hk5, rfl, by simp, by simpa using hown5, hb5, by simp; omega, HG⟩
            case measure => simp [intOf]; omega
      · have HX : Hid (scanRes s.data.toList = (acc, 0, 0)) := HF.out.2.trans (scanF_end (by have := HF.out.1; omega) (by rw [HL.out]; exact hlt))
        go_wp2
        go_ret3
        exact ⟨_, by rw [HX.out]; rfl, by rw [HX.out]; exact hown, hbr⟩

end Go.Proofs.YthggaojpkfdggaaDoor
