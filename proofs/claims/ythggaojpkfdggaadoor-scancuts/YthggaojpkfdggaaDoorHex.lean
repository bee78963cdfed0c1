/- Two hexadecimal digits by strconv.ParseUint, and the escapes. -/
import Derived.Test.YthggaojpkfdggaaDoorNum
import Derived.Lib.Strings
import Derived.Lib.Walk
import Derived.Lib.ConvBytes
import Derived.Lib.ParseIntBMem
import Derived.Lib.Hide
import Derived.Laws.Strings3
import Derived.Laws.Closers25
import Derived.Laws.Closers25b
import Derived.BigCall
import Derived.BigGuard
namespace Go.Proofs.YthggaojpkfdggaaDoor
open Go.RowKit

/-- The value of a hexadecimal digit. -/
def hexV (c : UInt8) : Option Nat :=
  if 48 ≤ c.toNat ∧ c.toNat ≤ 57 then some (c.toNat - 48)
  else if 97 ≤ c.toNat ∧ c.toNat ≤ 102 then some (c.toNat - 87)
  else if 65 ≤ c.toNat ∧ c.toNat ≤ 70 then some (c.toNat - 55)
  else none

def hexFrom (acc : Nat) : List UInt8 → Option Nat
  | [] => some acc
  | c :: r => match hexV c with
    | some v => hexFrom (acc * 16 + v) r
    | none => none

theorem hex_dig (c : UInt8) (h : 48 ≤ c.toNat ∧ c.toNat ≤ 57) : hexV c = some (c.toNat - 48) := by simp [hexV, h]

theorem hex_low : ∀ c : UInt8, ¬ (48 ≤ c.toNat ∧ c.toNat ≤ 57) → (97 ≤ bits .or .u8 (c.toNat : Int) 32 ∧ bits .or .u8 (c.toNat : Int) 32 ≤ 102) → hexV c = some (bits .or .u8 (c.toNat : Int) 32 - 87).toNat :=
  byte_all (by decide +kernel)
theorem hex_bad : ∀ c : UInt8, ¬ (48 ≤ c.toNat ∧ c.toNat ≤ 57) → ¬ (97 ≤ bits .or .u8 (c.toNat : Int) 32 ∧ bits .or .u8 (c.toNat : Int) 32 ≤ 102) → hexV c = none :=
  byte_all (by decide +kernel)

def hexTuple : Option Nat → Value
  | some v => .tuple #[.int .u64 v, .nilIface]
  | none => .tuple #[.int .u64 0, .iface 84 (.int .i64 2)]

set_option maxHeartbeats 8000000 in
set_option maxRecDepth 100000 in
theorem parseUint16 (t : ByteArray) (h2 : t.size = 2) (w : World) :
    Calls Tryd.prog 63 #[.string t, .int .i64 16, .int .i64 8] w fun e w' => e = .returned (hexTuple (hexFrom 0 t.data.toList)) ∧ w' = Lib.bytesWorld w 5 t := by
  have hemp : t.toList.isEmpty = false := by
    rw [← decide_eq_emptyBytes]
    exact decide_eq_false (fun h => by rw [h] at h2; cases h2)
  have hcv := Lib.run_convert_string_bytes (P := Tryd.prog) w 9 35 5 t (u := .string) Tryd.underlying9 Tryd.underlying35 Tryd.underlying5
  have hB : ∀ j, j < t.size → (Lib.bytesWorld w 5 t).cell? ⟨w.heap.size, j, none⟩ = some (.int .u8 (t.data.toList.getD j 0).toNat) := fun j hj => Lib.bytesWorld_cell w 5 t j hj
  obtain ⟨W1, hW1⟩ : ∃ W1, W1 = Lib.bytesWorld w 5 t := ⟨_, rfl⟩
  rw [← hW1] at hcv hB ⊢
  clear hW1
  obtain ⟨bs, hL⟩ : ∃ bs, bs = t.data.toList := ⟨_, rfl⟩
  have hLn : bs.length = t.size := by rw [hL, Lib.size_eq]
  rw [← hL] at hB ⊢
  clear hL
  have hmv : IntKind.u64.wrap (IntKind.u64.wrap 256 - 1) = 255 := by
    rw [IntKind.wrap_u64, IntKind.wrap_u64]
    decide
  have hts : t.size ≤ 2 := by omega
  have HT : Hid (t.size = 2) := h2
  clear h2
  go_enter Tryd.func63, Tryd.ntmps63
  go_wp2
  go_loop [12, 13, 101] (fun vu vn vi => ∃ (k acc : Nat) (a : Int), vu = .bool false ∧ vn = .int .u64 a ∧ vi = .int .i64 k ∧ k ≤ t.size ∧ Hid (a = (acc : Int) ∧ (k < 2 → acc ≤ 15) ∧ acc ≤ 255 ∧ (k = 0 → acc = 0) ∧ hexFrom 0 bs = hexFrom acc (bs.drop k)))
    (fun _ _ vi => t.size - (intOf vi).toNat)
  case atStart => exact ⟨0, 0, 0, rfl, rfl, rfl, by omega, rfl, by omega, by omega, by omega, rfl⟩
  case round =>
    obtain ⟨k, acc, a, rfl, rfl, rfl, hk, hh⟩ := hrel
    obtain ⟨ha, hac, hacc, hz, hdec⟩ := hh.out
    clear hh
    have a0 : 0 ≤ a := by omega
    by_cases hkn : k < t.size
    · have hc := hB k hkn
      have hdrop : bs.drop k = bs[k]'(by omega) :: bs.drop (k + 1) := List.drop_eq_getElem_cons (by omega)
      have hget : bs.getD k 0 = bs[k]'(by omega) := by simp [List.getD, List.getElem?_eq_getElem (show k < bs.length by omega)]
      rw [hdrop] at hdec
      rw [hget] at hc
      generalize bs[k]'(by omega) = c at hc hdec
      have hc256 : c.toNat < 256 := c.toNat_lt
      have a1 : a ≤ 15 := by have := hac (by omega); omega
      clear hB hdrop hget
      have hz' : k + 1 < 2 → acc = 0 := fun h => hz (by omega)
      by_cases hdig : 48 ≤ c.toNat ∧ c.toNat ≤ 57
      · have hF : hexFrom acc (c :: bs.drop (k + 1)) = hexFrom (acc * 16 + (c.toNat - 48)) (bs.drop (k + 1)) := by simp only [hexFrom, hex_dig c hdig]
        obtain ⟨hd0, hd1⟩ := hdig
        have HN : Hid (a * 16 + ((c.toNat : Int) - 48) = ((acc * 16 + (c.toNat - 48) : Nat) : Int) ∧ (k + 1 < 2 → acc * 16 + (c.toNat - 48) ≤ 15) ∧ acc * 16 + (c.toNat - 48) ≤ 255 ∧ (k + 1 = 0 → acc * 16 + (c.toNat - 48) = 0) ∧ hexFrom 0 bs = hexFrom (acc * 16 + (c.toNat - 48)) (bs.drop (k + 1))) :=
          Lib.hid ⟨by omega, fun h => by have := hz' h; omega, by omega, fun h => by omega, hdec.trans hF⟩
        have iov : a * 16 + ((c.toNat : Int) - 48) ≤ 255 := by omega
        clear hacc hF hdec ha hac hz hz'
        go_wp2
        refine ⟨⟨k + 1, acc * 16 + (c.toNat - 48), a * 16 + ((c.toNat : Int) - 48), rfl, (by first | rfl | (congr 1; omega)), (by first | rfl | (congr 1; omega)), by omega, HN⟩, by simp [intOf]; omega⟩
      · by_cases hc95 : c = 95
        · subst hc95
          have hF : hexFrom acc (95 :: bs.drop (k + 1)) = none := rfl
          rw [hF] at hdec
          have HD : Hid (hexFrom 0 bs = none) := hdec
          have cL := Tryd.internal_strconv_lower 95
          have hv : bits .or .u8 95 32 = 127 := by decide +kernel
          rw [hv] at cL
          have hc' : W1.cell? ⟨w.heap.size, k, none⟩ = some (.int .u8 95) := hc
          clear hacc hF hdec ha hac hz hz' hc hc256 hdig hv
          go_wp2_with (go_at_call 71; refine (cL _).mono ?_; rintro e w' ⟨rfl, rfl⟩)
          all_goals first | (exfalso; omega) | (go_ret2; exact ⟨by rw [HD.out]; rfl, rfl⟩)
        have h95 : ((c.toNat : Int) == 95) = false := by
          rw [beq_eq_false_iff_ne]
          intro h
          exact hc95 (UInt8.toNat_inj.1 (by rw [show (95 : UInt8).toNat = 95 from rfl]; omega))
        clear hc95
        have cL := Tryd.internal_strconv_lower (c.toNat : Int)
        have hv0 := bits_lo_u8 .or (c.toNat : Int) 32
        have hv1 := bits_hi_u8 .or (c.toNat : Int) 32
        have hlow := hex_low c hdig
        have hbad := hex_bad c hdig
        generalize bits .or .u8 (c.toNat : Int) 32 = m at *
        by_cases hm : 97 ≤ m ∧ m ≤ 102
        · have hF : hexFrom acc (c :: bs.drop (k + 1)) = hexFrom (acc * 16 + (m - 87).toNat) (bs.drop (k + 1)) := by simp only [hexFrom, hlow hm]
          obtain ⟨hm0, hm1⟩ := hm
          have HN : Hid (a * 16 + (m - 97 + 10) = ((acc * 16 + (m - 87).toNat : Nat) : Int) ∧ (k + 1 < 2 → acc * 16 + (m - 87).toNat ≤ 15) ∧ acc * 16 + (m - 87).toNat ≤ 255 ∧ (k + 1 = 0 → acc * 16 + (m - 87).toNat = 0) ∧ hexFrom 0 bs = hexFrom (acc * 16 + (m - 87).toNat) (bs.drop (k + 1))) :=
            Lib.hid ⟨by omega, fun h => by have := hz' h; omega, by omega, fun h => by omega, hdec.trans hF⟩
          have iov : a * 16 + (m - 97 + 10) ≤ 255 := by omega
          clear hacc hF hdec ha hac hz hz' hlow hbad
          go_wp2_with (go_at_call 71; refine (cL _).mono ?_; rintro e w' ⟨rfl, rfl⟩)
          all_goals first | (exfalso; omega) | exact ⟨⟨k + 1, acc * 16 + (m - 87).toNat, a * 16 + (m - 97 + 10), rfl, (by first | rfl | (congr 1; omega)), (by first | rfl | (congr 1; omega)), by omega, HN⟩, by simp [intOf]; omega⟩
        · have hF : hexFrom acc (c :: bs.drop (k + 1)) = none := by simp only [hexFrom, hbad hm]
          rw [hF] at hdec
          have HD : Hid (hexFrom 0 bs = none) := hdec
          clear hacc hF hdec ha hac hz hz' hlow hbad
          go_wp2_with (go_at_call 71; refine (cL _).mono ?_; rintro e w' ⟨rfl, rfl⟩)
          all_goals first | (exfalso; omega) | (go_ret2; exact ⟨by rw [HD.out]; rfl, rfl⟩)
    · have hkk : k = t.size := by omega
      subst hkk
      have hF : hexFrom acc (bs.drop t.size) = some acc := by rw [List.drop_eq_nil_of_le (by omega)]; rfl
      rw [hF] at hdec
      subst ha
      clear hacc hF a0 hac hz
      go_wp2
      go_ret2
      exact ⟨rfl, rfl⟩
end Go.Proofs.YthggaojpkfdggaaDoor
