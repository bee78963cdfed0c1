/- The law ScanQuotes, walked. -/
import Derived.Test.YthggaojpkfdggaaDoorQuotM
namespace Go.Proofs.YthggaojpkfdggaaDoor
open Go.RowKit

theorem own_one {w : World} {base : Nat} {v : Value} {t : TkA} (h : w.ownsRow base 31 4 v 1 (tksCells [t])) :
    ∃ g cap, v = .slice (some ⟨g, 0, none⟩) 1 cap ∧ w.cell? ⟨g, 0, none⟩ = some (.int .i64 t.1) ∧ w.cell? ⟨g, 1, none⟩ = some (.string ⟨t.2.1.toArray⟩) ∧ w.cell? ⟨g, 2, none⟩ = some (.int .i64 t.2.2.1) ∧ w.cell? ⟨g, 3, none⟩ = some (.int .i64 t.2.2.2) ∧ g < w.heap.size := by
  obtain ⟨g, cap, hv, _, hg⟩ := h.form (by omega)
  subst hv
  exact ⟨g, cap, rfl, h.cells (g := g) rfl 0 _ rfl, h.cells (g := g) rfl 1 _ rfl, h.cells (g := g) rfl 2 _ rfl, h.cells (g := g) rfl 3 _ rfl, hg⟩

theorem mk_data (l : List UInt8) : (⟨l.toArray⟩ : ByteArray).data.toList = l := rfl
theorem mk_size (l : List UInt8) : (⟨l.toArray⟩ : ByteArray).size = l.length := by
  show l.toArray.size = _
  simp
theorem mk_self (s : ByteArray) : (⟨s.data.toList.toArray⟩ : ByteArray) = s := by cases s; simp

set_option maxHeartbeats 4000000 in
theorem quotes_any (s : ByteArray) (hs : s.size ≤ 1048576) (w : World) (hG : Gl w) : Calls Tryd.prog 5 #[.string s] w fun e w' => e = .returned (.bool true) ∧ Below w.heap.size w w' := by
  have cQ := quote_any s (by omega) w
  have hll : s.data.toList.length = s.size := by simp
  have hqle := quoteL_le s.data.toList
  rw [hll] at hqle
  have hsc := scan_quoted s.data.toList
  rw [hll] at hsc
  generalize hq : (⟨(quoteL s.data.toList).toArray⟩ : ByteArray) = q at *
  have hqd : q.data.toList = quoteL s.data.toList := by rw [← hq]
  have hqs : q.size = (quoteL s.data.toList).length := by rw [← hq]; exact mk_size _
  rw [← hqs] at hqle hsc
  have hqm : q.size ≤ maxLen := by unfold maxLen; omega
  have cS : ∀ W, Gl W → Calls Tryd.prog 9 #[.string q] W (Scanned (if 65536 < q.size then ([], 0, 13) else if s.size ≤ 1024 then ([(3, s.data.toList, 0, 0)], 0, 0) else ([], 0, 3)) W) := fun W hG => by
    have := scan_any q hqm W hG
    rw [hqd, hsc] at this
    exact this
  by_cases h1 : 1024 < s.size
  · by_cases h2 : 65536 < q.size
    · rw [if_pos h2] at cS
      have h2' : decide (65536 < (q.size : Int)) = true := by simp; omega
      have HS := Lib.hid cS
      clear cS hsc hq hqd hqs hll h2
      go_enter Tryd.func5, Tryd.ntmps5
      go_wp2_with fail
      refine cQ.mono ?_
      rintro e w1 ⟨rfl, b1⟩
      go_wp2_with fail
      refine (HS.out w1 (hG.later b1)).mono ?_
      rintro e w2 ⟨v, rfl, hown, b2⟩
      obtain ⟨ao, cv, hv⟩ := owns_form hown
      subst hv
      have b12 : Below w.heap.size w w2 := b1.trans (b2.mono b1.size)
      clear hown
      go_wp2_with fail
      refine (awake_any w2 (hG.later b12)).mono ?_
      rintro e w3 ⟨rfl, b3⟩
      go_wp2
      go_ret
      exact ⟨rfl, b12.trans (b3.mono b12.size)⟩
    · rw [if_neg h2, if_neg (by omega)] at cS
      have h2' : decide (65536 < (q.size : Int)) = false := by simp; omega
      have HS := Lib.hid cS
      clear cS hsc hq hqd hqs hll h2
      go_enter Tryd.func5, Tryd.ntmps5
      go_wp2_with fail
      refine cQ.mono ?_
      rintro e w1 ⟨rfl, b1⟩
      go_wp2_with fail
      refine (HS.out w1 (hG.later b1)).mono ?_
      rintro e w2 ⟨v, rfl, hown, b2⟩
      obtain ⟨ao, cv, hv⟩ := owns_form hown
      subst hv
      have b12 : Below w.heap.size w w2 := b1.trans (b2.mono b1.size)
      clear hown
      go_wp2_with fail
      refine (awake_any w2 (hG.later b12)).mono ?_
      rintro e w3 ⟨rfl, b3⟩
      go_wp2
      go_ret
      exact ⟨rfl, b12.trans (b3.mono b12.size)⟩
  · rw [if_neg (by omega), if_pos (by omega)] at cS
    have cQ2 : ∀ W, _ := fun W => quote_any q (by omega) W
    have hqle2 := quoteL_le q.data.toList
    have hll2 : q.data.toList.length = q.size := by simp
    rw [hll2] at hqle2
    have hsc2 := scan_quoted q.data.toList
    rw [hll2] at hsc2
    generalize hr : (⟨(quoteL q.data.toList).toArray⟩ : ByteArray) = r at *
    have hrd : r.data.toList = quoteL q.data.toList := by rw [← hr]
    have hrs : r.size = (quoteL q.data.toList).length := by rw [← hr]; exact mk_size _
    rw [← hrs] at hqle2 hsc2
    have hrm : r.size ≤ maxLen := by unfold maxLen; omega
    rw [if_neg (by omega)] at hsc2
    have cS2 : ∀ W, Gl W → Calls Tryd.prog 9 #[.string r] W (Scanned (if q.size ≤ 1024 then ([(3, q.data.toList, 0, 0)], 0, 0) else ([], 0, 3)) W) := fun W hG => by
      have := scan_any r hrm W hG
      rw [hrd, hsc2] at this
      exact this
    have h1' : decide (1024 < (s.size : Int)) = false := by simp; omega
    have HS := Lib.hid cS
    have HQ2 := Lib.hid cQ2
    by_cases h3 : q.size ≤ 1024
    · rw [if_pos h3] at cS2
      have h3' : decide (1024 < (q.size : Int)) = false := by simp; omega
      have HS2 := Lib.hid cS2
      clear cS cS2 cQ2 hsc hsc2 hq hqd hqs hll hll2 hr hrd hrs h1
      go_enter Tryd.func5, Tryd.ntmps5
      go_wp2_with fail
      refine cQ.mono ?_
      rintro e w1 ⟨rfl, b1⟩
      go_wp2_with fail
      refine (HS.out w1 (hG.later b1)).mono ?_
      rintro e w2 ⟨v, rfl, hown, b2⟩
      obtain ⟨g, cap, hv, c0, c1, c2, c3, hg⟩ := own_one hown
      subst hv
      have c1' : w2.cell? ⟨g, 1, none⟩ = some (.string s) := by rw [c1]
      clear c1
      have b12 : Below w.heap.size w w2 := b1.trans (b2.mono b1.size)
      clear hown
      go_wp2_with fail
      refine (awake_any w2 (hG.later b12)).mono ?_
      rintro e w3 ⟨rfl, b3⟩
      have d0 := (b3.cell (p := ⟨g, 0, none⟩) hg).trans c0
      have d1 := (b3.cell (p := ⟨g, 1, none⟩) hg).trans c1'
      have d3 := (b3.cell (p := ⟨g, 3, none⟩) hg).trans c3
      clear c0 c1' c2 c3
      have b13 : Below w.heap.size w w3 := b12.trans (b3.mono b12.size)
      go_wp2_with fail
      refine (HQ2.out w3).mono ?_
      rintro e w4 ⟨rfl, b4⟩
      have b14 : Below w.heap.size w w4 := b13.trans (b4.mono b13.size)
      clear d0 d1 d3
      go_wp2_with fail
      refine (HS2.out w4 (hG.later b14)).mono ?_
      rintro e w5 ⟨v, rfl, hown, b5⟩
      obtain ⟨g2, cap2, hv, c0, c1, c2, c3, hg2⟩ := own_one hown
      subst hv
      have c1' : w5.cell? ⟨g2, 1, none⟩ = some (.string q) := by rw [c1]
      clear c1 hown
      go_wp2
      go_ret
      exact ⟨rfl, b14.trans (b5.mono b14.size)⟩
    · rw [if_neg h3] at cS2
      have h3' : decide (1024 < (q.size : Int)) = true := by simp; omega
      have HS2 := Lib.hid cS2
      clear cS cS2 cQ2 hsc hsc2 hq hqd hqs hll hll2 hr hrd hrs h1
      go_enter Tryd.func5, Tryd.ntmps5
      go_wp2_with fail
      refine cQ.mono ?_
      rintro e w1 ⟨rfl, b1⟩
      go_wp2_with fail
      refine (HS.out w1 (hG.later b1)).mono ?_
      rintro e w2 ⟨v, rfl, hown, b2⟩
      obtain ⟨g, cap, hv, c0, c1, c2, c3, hg⟩ := own_one hown
      subst hv
      have c1' : w2.cell? ⟨g, 1, none⟩ = some (.string s) := by rw [c1]
      clear c1
      have b12 : Below w.heap.size w w2 := b1.trans (b2.mono b1.size)
      clear hown
      go_wp2_with fail
      refine (awake_any w2 (hG.later b12)).mono ?_
      rintro e w3 ⟨rfl, b3⟩
      have d0 := (b3.cell (p := ⟨g, 0, none⟩) hg).trans c0
      have d1 := (b3.cell (p := ⟨g, 1, none⟩) hg).trans c1'
      have d3 := (b3.cell (p := ⟨g, 3, none⟩) hg).trans c3
      clear c0 c1' c2 c3
      have b13 : Below w.heap.size w w3 := b12.trans (b3.mono b12.size)
      go_wp2_with fail
      refine (HQ2.out w3).mono ?_
      rintro e w4 ⟨rfl, b4⟩
      have b14 : Below w.heap.size w w4 := b13.trans (b4.mono b13.size)
      clear d0 d1 d3
      go_wp2_with fail
      refine (HS2.out w4 (hG.later b14)).mono ?_
      rintro e w5 ⟨v, rfl, hown, b5⟩
      obtain ⟨ao, cv, hv⟩ := owns_form hown
      subst hv
      clear hown
      go_wp2
      go_ret
      exact ⟨rfl, b14.trans (b5.mono b14.size)⟩

end Go.Proofs.YthggaojpkfdggaaDoor
