/- The law ScanCuts, walked. -/
import Derived.Test.YthggaojpkfdggaaDoorRefZ
import Derived.Test.YthggaojpkfdggaaDoorSpacedLaw
namespace Go.Proofs.YthggaojpkfdggaaDoor
open Go.RowKit

set_option maxRecDepth 20000 in
set_option maxHeartbeats 4000000 in
/-- The document's Same, at two rows of the same tokens. -/
theorem same_any (ts : List TkA) (hn : ts.length ≤ 20000) (ao bo : Option Addr) (ca cb : Nat) (w : World) (hA : ∀ i (h : i < ts.length), ∃ g, ao = some ⟨g, 0, none⟩ ∧ TkAt w g i ts[i]) (hB : ∀ i (h : i < ts.length), ∃ g, bo = some ⟨g, 0, none⟩ ∧ TkAt w g i ts[i]) :
    Calls Tryd.prog 12 #[.slice ao ts.length ca, .slice bo ts.length cb] w fun e w' => e = .returned (.bool true) ∧ ∃ q, w' = w.drewN q := by
  have HA := Lib.hid hA
  have HB := Lib.hid hB
  clear hA hB
  go_enter Tryd.func12, Tryd.ntmps12
  go_wp2_with fail
  go_loopw [5] (fun x wr => ∃ i q : Nat, i ≤ ts.length ∧ x = .int .i64 i ∧ wr = w.drewN q) (fun x _ => ts.length - (intOf x).toNat)
  case atStart => exact ⟨0, 0, Nat.zero_le _, rfl, rfl⟩
  case round =>
    obtain ⟨i, q, hi, rfl, rfl⟩ := hrel
    by_cases hlt : i < ts.length
    · obtain ⟨g, rfl, c0, c1, c2, c3⟩ := HA.out i hlt
      obtain ⟨g2, rfl, d0, d1, d2, d3⟩ := HB.out i hlt
      generalize ts[i].1 = kd at *
      generalize ts[i].2.2.1 = nu at *
      generalize ts[i].2.2.2 = pl at *
      generalize ts[i].2.1 = tx at *
      generalize (⟨tx.toArray⟩ : ByteArray) = txb at *
      have q0 : (i : Int) < (ts.length : Int) := by omega
      have q64 : (i : Int) + 1 ≤ 9223372036854775807 := by omega
      go_wp2_with fail
      go_quiet (fail)
      go_wp2
      rw [show ((i : Int) + 1) = ((i + 1 : Nat) : Int) from rfl]
      exact ⟨⟨i + 1, q + nq, hlt, rfl, rfl⟩, by simpa [intOf] using Nat.sub_lt_sub_left hlt (Nat.lt_succ_self i)⟩
    · have : i = ts.length := by omega
      subst this
      go_wp2
      go_ret
      exact ⟨rfl, q, rfl⟩

theorem cells_of {w : World} {base n cap : Nat} {ao : Option Addr} {ts : List TkA} (h : w.ownsRow base 31 4 (.slice ao n cap) n (tksCells ts)) (hn : n = ts.length) :
    ∀ i (_ : i < ts.length), ∃ g, ao = some ⟨g, 0, none⟩ ∧ g < w.heap.size ∧ TkAt w g i ts[i] := by
  intro i hi
  obtain ⟨g, cap', hv, _, hg⟩ := h.form (by omega)
  injection hv with hv1 hv2 hv3
  subst hv1; subst hv3
  exact ⟨g, rfl, hg, tk_at h i hi⟩

set_option maxRecDepth 20000 in
set_option maxHeartbeats 4000000 in
theorem cuts_any (s : ByteArray) (hs : s.size ≤ maxLen) (w : World) (hG : Gl w) : Calls Tryd.prog 3 #[.string s] w fun e w' => e = .returned (.bool true) ∧ Below w.heap.size w w' := by
  have cS := scan_any s hs w hG
  have cR : ∀ W, Calls Tryd.prog 10 #[.string s] W _ := fun W => scanR_any s hs W
  have hfew : (scanRes s.data.toList).1.length ≤ 20000 := (scanRes_placed s.data.toList).few
  generalize scanRes s.data.toList = r at *
  obtain ⟨ts, at_, er⟩ := r
  dsimp only at hfew
  have HS := Lib.hid cS
  have HR := Lib.hid cR
  have HF := Lib.hid hfew
  clear cS cR hfew
  have eer : (er == er) = true := by simp
  have eat : ((at_ : Int) == (at_ : Int)) = true := by simp
  go_enter Tryd.func3, Tryd.ntmps3
  go_wp2_with fail
  refine HS.out.mono ?_
  rintro e w1 ⟨v, rfl, hown, b1⟩
  dsimp only at hown
  obtain ⟨ao, ca, hv⟩ := owns_form hown
  subst hv
  go_wp2_with fail
  refine (HR.out w1).mono ?_
  rintro e w2 ⟨v, rfl, hownR, b2⟩
  dsimp only at hownR
  obtain ⟨bo, cb, hv⟩ := owns_form hownR
  subst hv
  have b12 : Below w.heap.size w w2 := b1.trans (b2.mono b1.size)
  have hown2 := ownsRow_later b2 hown
  go_wp2_with fail
  refine (awake_any w2 (hG.later b12)).mono ?_
  rintro e w3 ⟨rfl, b3⟩
  have b13 : Below w.heap.size w w3 := b12.trans (b3.mono b12.size)
  have cQ := same_any ts HF.out ao bo ca cb w3 (fun i hi => by
    obtain ⟨g, h1, h2, h3⟩ := cells_of hown2 rfl i hi
    exact ⟨g, h1, h3.later b3 h2⟩) (fun i hi => by
    obtain ⟨g, h1, h2, h3⟩ := cells_of hownR rfl i hi
    exact ⟨g, h1, h3.later b3 h2⟩)
  clear hown hownR hown2
  go_wp2_with fail
  refine cQ.mono ?_
  rintro e w4 ⟨rfl, q, rfl⟩
  go_wp2
  go_ret
  exact ⟨rfl, below_drewN b13 _⟩

end Go.Proofs.YthggaojpkfdggaaDoor
