/- Which texts are names: the program's test of it. -/
import Derived.Test.YtbejkphekfbfnaaGreatChecked
import Derived.WalkKit
import Derived.WalkSpells
import Derived.WalkLawsBesides
import Derived.Shelf.Abstract
import Derived.Deep.Draws
import Derived.Deep.QuietTactic
import Derived.BigQuiet
import Derived.Lib.Strings
import Derived.Lib.Walk
import Derived.Lib.Hide
import Derived.Laws.Strings3
import Derived.Lib.IndexBytes
namespace Go.Proofs.YtbejkphekfbfnaaGreat
open Go.RowKit

/-- Nothing is asked of the package's variables here. -/
def Gl (_ : World) : Prop := True
theorem Gl.later {w W : World} (_ : Gl w) (_ : Below w.heap.size w W) : Gl W := trivial
def betweenP (lo hi : Int) : UInt8 → Bool := fun b => decide (lo ≤ (b.toNat : Int)) && decide ((b.toNat : Int) ≤ hi)

def oneOfP (l : List UInt8) : UInt8 → Bool := fun b => decide (0 ≤ Lib.indexByte l b)
def eitherP (ps : List (UInt8 → Bool)) : UInt8 → Bool := fun b => ps.any fun p => p b

def digitP : UInt8 → Bool := betweenP 48 57
def firstP : UInt8 → Bool := eitherP [betweenP 97 122, betweenP 65 90, oneOfP [95]]
def innerP : UInt8 → Bool := eitherP [firstP, digitP]
set_option maxRecDepth 20000 in
theorem byte_all {P : UInt8 → Prop} (h : ∀ n, n < 256 → P (UInt8.ofNat n)) (c : UInt8) : P c := by
  have := h c.toNat c.toNat_lt
  simpa using this

theorem byte_allA {P : UInt8 → Prop} (h : ∀ n, n < 256 → P (UInt8.ofNat n)) (c : UInt8) : P c := by
  have := h c.toNat c.toNat_lt
  simpa using this

set_option maxRecDepth 20000 in
theorem first_eqA : ∀ b : UInt8, firstP b = (decide (97 ≤ (b.toNat : Int)) && decide ((b.toNat : Int) ≤ 122) || decide (65 ≤ (b.toNat : Int)) && decide ((b.toNat : Int) ≤ 90) || ((b.toNat : Int) == 95)) := byte_allA (by decide +kernel)

set_option maxRecDepth 20000 in
set_option maxHeartbeats 1000000 in
theorem digit_any (b : UInt8) (w : World) : Calls Tryz.prog 143 #[.int .u8 b.toNat] w fun e w' => e = .returned (.bool (digitP b)) ∧ w' = w := by
  by_cases h1 : 48 ≤ (b.toNat : Int) <;> by_cases h2 : (b.toNat : Int) ≤ 57
  all_goals
    go_enter Tryz.func143, Tryz.ntmps143
    go_wp2
    all_goals first | (exfalso; omega) | (go_ret; exact ⟨by simp [digitP, betweenP, h1, h2], rfl⟩)

set_option maxRecDepth 20000 in
set_option maxHeartbeats 4000000 in
theorem letter_any (b : UInt8) (w : World) : Calls Tryz.prog 145 #[.int .u8 b.toNat] w fun e w' => e = .returned (.bool (firstP b)) ∧ w' = w := by
  rw [first_eqA]
  cases h5 : ((b.toNat : Int) == 95)
  all_goals
    by_cases h1 : 97 ≤ (b.toNat : Int) <;> by_cases h2 : (b.toNat : Int) ≤ 122 <;> by_cases h3 : 65 ≤ (b.toNat : Int) <;> by_cases h4 : (b.toNat : Int) ≤ 90
    all_goals first | (exfalso; omega) | skip
    all_goals
      go_enter Tryz.func145, Tryz.ntmps145
      go_wp2
      all_goals first | (exfalso; omega) | (go_ret; exact ⟨by simp [h1, h2, h3, h4], rfl⟩)

def words : List (List UInt8) := [[116, 121, 112, 101], [115, 116, 114, 117, 99, 116], [105, 110, 116, 101, 114, 102, 97, 99, 101], [102, 117, 110, 99], [118, 97, 114], [105, 102], [101, 108, 115, 101], [102, 111, 114], [114, 101, 116, 117, 114, 110], [98, 114, 101, 97, 107], [99, 111, 110, 116, 105, 110, 117, 101], [116, 114, 117, 101], [102, 97, 108, 115, 101], [110, 105, 108]]
def wordP (l : List UInt8) : Bool := words.contains l

set_option maxRecDepth 20000 in
set_option maxHeartbeats 1000000 in
theorem isWord_any (s : ByteArray) (w : World) :
    Calls Tryz.prog 144 #[.string s] w fun e w' => e = .returned (.bool (wordP s.toList)) ∧ w' = w := by
  cases hP : wordP s.toList
  · have hn : (s.toList == [116, 121, 112, 101]) = false ∧ (s.toList == [115, 116, 114, 117, 99, 116]) = false ∧ (s.toList == [105, 110, 116, 101, 114, 102, 97, 99, 101]) = false ∧ (s.toList == [102, 117, 110, 99]) = false ∧ (s.toList == [118, 97, 114]) = false ∧ (s.toList == [105, 102]) = false ∧ (s.toList == [101, 108, 115, 101]) = false ∧ (s.toList == [102, 111, 114]) = false ∧ (s.toList == [114, 101, 116, 117, 114, 110]) = false ∧ (s.toList == [98, 114, 101, 97, 107]) = false ∧ (s.toList == [99, 111, 110, 116, 105, 110, 117, 101]) = false ∧ (s.toList == [116, 114, 117, 101]) = false ∧ (s.toList == [102, 97, 108, 115, 101]) = false ∧ (s.toList == [110, 105, 108]) = false := by
      simpa [wordP, words] using hP
    obtain ⟨h0, h1, h2, h3, h4, h5, h6, h7, h8, h9, h10, h11, h12, h13⟩ := hn
    clear hP
    go_enter Tryz.func144, Tryz.ntmps144
    go_wp2
    go_ret
    exact ⟨rfl, rfl⟩
  · have hm : s.toList = [116, 121, 112, 101] ∨ s.toList = [115, 116, 114, 117, 99, 116] ∨ s.toList = [105, 110, 116, 101, 114, 102, 97, 99, 101] ∨ s.toList = [102, 117, 110, 99] ∨ s.toList = [118, 97, 114] ∨ s.toList = [105, 102] ∨ s.toList = [101, 108, 115, 101] ∨ s.toList = [102, 111, 114] ∨ s.toList = [114, 101, 116, 117, 114, 110] ∨ s.toList = [98, 114, 101, 97, 107] ∨ s.toList = [99, 111, 110, 116, 105, 110, 117, 101] ∨ s.toList = [116, 114, 117, 101] ∨ s.toList = [102, 97, 108, 115, 101] ∨ s.toList = [110, 105, 108] := by
      simpa [wordP, words] using hP
    clear hP
    rcases hm with h | h | h | h | h | h | h | h | h | h | h | h | h | h
    all_goals
      go_enter Tryz.func144, Tryz.ntmps144
      go_wp2
      go_ret
      exact ⟨rfl, rfl⟩

/-- Is the byte at place k one of p? (Beyond the end: no.) -/
def atP (p : UInt8 → Bool) (l : List UInt8) (k : Nat) : Bool := match l[k]? with
  | some b => p b
  | none => false

set_option maxRecDepth 20000 in
theorem atP_lt {p : UInt8 → Bool} {s : ByteArray} {k : Nat} (h : k < s.size) : atP p s.data.toList k = p s[k] := by
  unfold atP
  rw [List.getElem?_eq_getElem (by simpa using h)]
  rfl
set_option maxRecDepth 20000 in
theorem getElem_list (s : ByteArray) (k : Nat) (hk : k < s.size) : s.data.toList[k]? = some s[k] := by
  rw [List.getElem?_eq_getElem (by simpa using hk)]; rfl

set_option maxRecDepth 20000 in
theorem inner_eq : ∀ b : UInt8, innerP b = (firstP b || digitP b) := byte_all (by decide +kernel)
/-- The document's Name, of a text that is not empty and not too long. -/
def nmR (l : List UInt8) : Bool := !(atP digitP l 0) && !(wordP l) && l.all innerP

def nameP (l : List UInt8) : Bool := if l.length = 0 ∨ 64 < l.length then false else nmR l
theorem nameP_eq (l : List UInt8) (h1 : ¬ l.length = 0) (h2 : ¬ 64 < l.length) : nameP l = nmR l := by unfold nameP; rw [if_neg (by omega)]
theorem nameP_out (l : List UInt8) (h : l.length = 0 ∨ 64 < l.length) : nameP l = false := by unfold nameP; rw [if_pos h]
set_option maxRecDepth 20000 in
set_option maxHeartbeats 2000000 in
theorem isName_any (s : ByteArray) (_hs : s.size ≤ maxLen) (w : World) (hG : Gl w) : Calls Tryz.prog 131 #[.string s] w fun e w' => e = .returned (.bool (nameP s.data.toList)) ∧ Below w.heap.size w w' := by
  have hll : s.data.toList.length = s.size := by simp
  unfold maxLen at _hs
  by_cases h0 : s.size < 1
  · have HP := Lib.hid (nameP_out s.data.toList (by omega))
    have hemp : s.toList.isEmpty = true := by rw [Lib.toList_data, List.isEmpty_iff_length_eq_zero, hll]; omega
    clear hll
    go_enter Tryz.func131, Tryz.ntmps131
    go_wp2
    go_ret
    exact ⟨by rw [HP.out]; rfl, Below.refl _ _⟩
  have hemp : s.toList.isEmpty = false := by
    cases hh : s.toList.isEmpty
    · rfl
    · rw [Lib.toList_data, List.isEmpty_iff_length_eq_zero, hll] at hh; omega
  by_cases h64 : 64 < s.size
  · have HP := Lib.hid (nameP_out s.data.toList (by omega))
    clear hll
    go_enter Tryz.func131, Tryz.ntmps131
    go_wp2
    go_ret
    exact ⟨by rw [HP.out]; rfl, Below.refl _ _⟩
  have h64' : decide (64 < (s.size : Int)) = false := by simp; omega
  have h0' : decide ((s.size : Int) < 1) = false := by simp; omega
  have hP := nameP_eq s.data.toList (by omega) (by omega)
  have hpos : 0 < s.size := by omega
  have hat := atP_lt (p := digitP) (s := s) (k := 0) hpos
  unfold nmR at hP
  rw [hat] at hP
  have cD := digit_any (s[0]'hpos)
  cases hd : digitP (s[0]'hpos)
  · rw [hd] at hP cD
    have cR := isWord_any s w
    rw [Lib.toList_data] at cR
    cases hw : wordP s.data.toList
    · rw [hw] at hP cR
      have HP : Hid (nameP s.data.toList = s.data.toList.all innerP) := by show _ = _; rw [hP]; simp
      have HL := Lib.hid hll
      clear hP hw hd hat hll h0 h64
      go_enter Tryz.func131, Tryz.ntmps131
      go_wp2_with fail
      refine (cD _).mono ?_
      rintro e w' ⟨rfl, rfl⟩
      go_wp2_with fail
      refine cR.mono ?_
      rintro e w2 ⟨rfl, hw2⟩
      subst hw2
      have b2 : Below w2.heap.size w2 w2 := Below.refl _ _
      clear cD cR
      go_wp2_with fail
      go_loop [22] (fun i => ∃ k : Nat, k ≤ s.size ∧ i = .int .i64 k ∧ Hid ((s.data.toList.take k).all innerP = true)) (fun i => s.size - (intOf i).toNat)
      case atStart => exact ⟨0, Nat.zero_le _, rfl, rfl⟩
      case round =>
        obtain ⟨k, hk, rfl, HA⟩ := hrel
        by_cases hlt : k < s.size
        · have cL := letter_any s[k]
          have cD := digit_any s[k]
          have HI := Lib.hid (inner_eq s[k])
          have HS : Hid ((s.data.toList.take (k + 1)).all innerP = innerP s[k]) := by
            show _ = _
            rw [List.take_succ_eq_append_getElem (by rw [HL.out]; exact hlt), List.all_append, HA.out]
            simp
            rfl
          have HN : Hid (innerP s[k] = false → s.data.toList.all innerP = false) := by
            intro h
            rw [List.all_eq_false]
            exact ⟨s[k], List.mem_of_getElem? (getElem_list s k hlt), by simp [h]⟩
          cases hf : firstP s[k] <;> rw [hf] at cL HI
          · cases hd : digitP s[k] <;> rw [hd] at cD HI
            · clear hf hd
              go_wp2_with fail
              refine (cL _).mono ?_
              rintro e w' ⟨rfl, hw'⟩
              subst hw'
              go_wp2_with fail
              refine (cD _).mono ?_
              rintro e w' ⟨rfl, hw'⟩
              subst hw'
              go_wp2
              go_ret
              exact ⟨by rw [HP.out, HN.out (by rw [HI.out]; rfl)]; rfl, b2⟩
            · clear hf hd
              go_wp2_with fail
              refine (cL _).mono ?_
              rintro e w' ⟨rfl, hw'⟩
              subst hw'
              go_wp2_with fail
              refine (cD _).mono ?_
              rintro e w' ⟨rfl, hw'⟩
              subst hw'
              go_wp2
              go_round
              case rel => exact ⟨k + 1, hlt, by go_num, by show _ = _; rw [HS.out, HI.out]; rfl⟩
              case measure => simp [intOf]; omega
          · clear hf
            go_wp2_with fail
            refine (cL _).mono ?_
            rintro e w' ⟨rfl, hw'⟩
            subst hw'
            go_wp2
            go_round
            case rel => exact ⟨k + 1, hlt, by go_num, by show _ = _; rw [HS.out, HI.out]; rfl⟩
            case measure => simp [intOf]; omega
        · have HF : Hid (s.data.toList.all innerP = true) := by
            show _ = _
            have := HA.out
            rw [List.take_of_length_le (by rw [HL.out]; omega)] at this
            exact this
          go_wp2
          go_ret
          exact ⟨by rw [HP.out, HF.out]; rfl, b2⟩
    · rw [hw] at hP cR
      have HP : Hid (nameP s.data.toList = false) := by show _ = _; rw [hP]; simp
      clear hP hw hd hat hll h0 h64
      go_enter Tryz.func131, Tryz.ntmps131
      go_wp2_with fail
      refine (cD _).mono ?_
      rintro e w' ⟨rfl, rfl⟩
      go_wp2_with fail
      refine cR.mono ?_
      rintro e w2 ⟨rfl, hw2⟩
      subst hw2
      have b2 : Below w2.heap.size w2 w2 := Below.refl _ _
      go_wp2
      go_ret
      exact ⟨by rw [HP.out]; rfl, b2⟩
  · rw [hd] at hP cD
    have HP : Hid (nameP s.data.toList = false) := by show _ = _; rw [hP]; simp
    clear hP hd hat hll h0 h64
    go_enter Tryz.func131, Tryz.ntmps131
    go_wp2_with fail
    refine (cD _).mono ?_
    rintro e w' ⟨rfl, rfl⟩
    go_wp2
    go_ret
    exact ⟨by rw [HP.out]; rfl, Below.refl _ _⟩


end Go.Proofs.YtbejkphekfbfnaaGreat
