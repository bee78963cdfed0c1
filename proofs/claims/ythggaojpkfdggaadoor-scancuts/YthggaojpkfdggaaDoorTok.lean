/- The reader's forms: names and marks. -/
import Derived.Test.YthggaojpkfdggaaDoorSkip
namespace Go.Proofs.YthggaojpkfdggaaDoor
open Go.RowKit

def pairs : List (List UInt8) := [[58, 61], [61, 61], [33, 61], [60, 61], [62, 61], [38, 38], [124, 124]]
def words : List (List UInt8) := [[116, 121, 112, 101], [115, 116, 114, 117, 99, 116], [105, 110, 116, 101, 114, 102, 97, 99, 101], [102, 117, 110, 99], [118, 97, 114], [105, 102], [101, 108, 115, 101], [102, 111, 114], [114, 101, 116, 117, 114, 110], [98, 114, 101, 97, 107], [99, 111, 110, 116, 105, 110, 117, 101], [116, 114, 117, 101], [102, 97, 108, 115, 101], [110, 105, 108]]
def pairP (l : List UInt8) : Bool := pairs.contains l
def wordP (l : List UInt8) : Bool := words.contains l

set_option maxHeartbeats 1000000 in
theorem isPair_any (s : ByteArray) (w : World) :
    Calls Tryd.prog 51 #[.string s] w fun e w' => e = .returned (.bool (pairP s.toList)) ∧ w' = w := by
  cases hP : pairP s.toList
  · have hn : (s.toList == [58, 61]) = false ∧ (s.toList == [61, 61]) = false ∧ (s.toList == [33, 61]) = false ∧ (s.toList == [60, 61]) = false ∧ (s.toList == [62, 61]) = false ∧ (s.toList == [38, 38]) = false ∧ (s.toList == [124, 124]) = false := by
      simpa [pairP, pairs] using hP
    obtain ⟨h0, h1, h2, h3, h4, h5, h6⟩ := hn
    clear hP
    go_enter Tryd.func51, Tryd.ntmps51
    go_wp2
    go_ret
    exact ⟨rfl, rfl⟩
  · have hm : s.toList = [58, 61] ∨ s.toList = [61, 61] ∨ s.toList = [33, 61] ∨ s.toList = [60, 61] ∨ s.toList = [62, 61] ∨ s.toList = [38, 38] ∨ s.toList = [124, 124] := by
      simpa [pairP, pairs] using hP
    clear hP
    rcases hm with h | h | h | h | h | h | h
    all_goals
      go_enter Tryd.func51, Tryd.ntmps51
      go_wp2
      go_ret
      exact ⟨rfl, rfl⟩

set_option maxHeartbeats 1000000 in
theorem isWord_any (s : ByteArray) (w : World) :
    Calls Tryd.prog 44 #[.string s] w fun e w' => e = .returned (.bool (wordP s.toList)) ∧ w' = w := by
  cases hP : wordP s.toList
  · have hn : (s.toList == [116, 121, 112, 101]) = false ∧ (s.toList == [115, 116, 114, 117, 99, 116]) = false ∧ (s.toList == [105, 110, 116, 101, 114, 102, 97, 99, 101]) = false ∧ (s.toList == [102, 117, 110, 99]) = false ∧ (s.toList == [118, 97, 114]) = false ∧ (s.toList == [105, 102]) = false ∧ (s.toList == [101, 108, 115, 101]) = false ∧ (s.toList == [102, 111, 114]) = false ∧ (s.toList == [114, 101, 116, 117, 114, 110]) = false ∧ (s.toList == [98, 114, 101, 97, 107]) = false ∧ (s.toList == [99, 111, 110, 116, 105, 110, 117, 101]) = false ∧ (s.toList == [116, 114, 117, 101]) = false ∧ (s.toList == [102, 97, 108, 115, 101]) = false ∧ (s.toList == [110, 105, 108]) = false := by
      simpa [wordP, words] using hP
    obtain ⟨h0, h1, h2, h3, h4, h5, h6, h7, h8, h9, h10, h11, h12, h13⟩ := hn
    clear hP
    go_enter Tryd.func44, Tryd.ntmps44
    go_wp2
    go_ret
    exact ⟨rfl, rfl⟩
  · have hm : s.toList = [116, 121, 112, 101] ∨ s.toList = [115, 116, 114, 117, 99, 116] ∨ s.toList = [105, 110, 116, 101, 114, 102, 97, 99, 101] ∨ s.toList = [102, 117, 110, 99] ∨ s.toList = [118, 97, 114] ∨ s.toList = [105, 102] ∨ s.toList = [101, 108, 115, 101] ∨ s.toList = [102, 111, 114] ∨ s.toList = [114, 101, 116, 117, 114, 110] ∨ s.toList = [98, 114, 101, 97, 107] ∨ s.toList = [99, 111, 110, 116, 105, 110, 117, 101] ∨ s.toList = [116, 114, 117, 101] ∨ s.toList = [102, 97, 108, 115, 101] ∨ s.toList = [110, 105, 108] := by
      simpa [wordP, words] using hP
    clear hP
    rcases hm with h | h | h | h | h | h | h | h | h | h | h | h | h | h
    all_goals
      go_enter Tryd.func44, Tryd.ntmps44
      go_wp2
      go_ret
      exact ⟨rfl, rfl⟩

set_option maxHeartbeats 400000 in
theorem clone_any (s : ByteArray) (w : World) (hlim : s.size ≤ 281474976710656) :
    Calls Tryd.prog 43 #[.string s] w fun e w' => e = .returned (.string s) ∧ Below w.heap.size w w' := by
  go_enter Tryd.func43, Tryd.ntmps43
  go_wp2_with (go_at_call 57; refine (Tryd.stringslite_Clone _ _ hlim).mono ?_; rintro e w' ⟨rfl, hb⟩)
  go_ret
  exact ⟨rfl, hb⟩

end Go.Proofs.YthggaojpkfdggaaDoor
