/- The escapes of a string. -/
import Derived.Test.YthggaojpkfdggaaDoorHex
namespace Go.Proofs.YthggaojpkfdggaaDoor
open Go.RowKit

set_option maxHeartbeats 1000000 in
theorem pub16_some (t : ByteArray) (h2 : t.size = 2) (v : Nat) (hv : hexFrom 0 t.data.toList = some v) (w : World) :
    Calls Tryd.prog 69 #[.string t, .int .i64 16, .int .i64 8] w fun e w' => e = .returned (.tuple #[.int .u64 v, .nilIface]) ∧ Below w.heap.size w w' := by
  have c := parseUint16 t h2 w
  rw [hv] at c
  change Calls Tryd.prog 63 _ _ (fun e w' => e = .returned (.tuple #[.int .u64 v, .nilIface]) ∧ _) at c
  have hb := Lib.bytesWorld_below w 5 t
  generalize Lib.bytesWorld w 5 t = W1 at *
  clear hv h2
  go_enter Tryd.func69, Tryd.ntmps69
  go_wp2_with (go_at_call 63; refine c.mono ?_; rintro e w' ⟨rfl, rfl⟩)
  go_ret2
  exact ⟨rfl, hb⟩

set_option maxHeartbeats 1000000 in
theorem pub16_none (t : ByteArray) (h2 : t.size = 2) (hv : hexFrom 0 t.data.toList = none) (w : World) (hG : Gl w) :
    Calls Tryd.prog 69 #[.string t, .int .i64 16, .int .i64 8] w fun e w' => ∃ N, e = .returned (.tuple #[.int .u64 0, .iface 87 (.pointer (some ⟨N, 0, none⟩))]) ∧ Below w.heap.size w w' := by
  have c := parseUint16 t h2 w
  rw [hv] at c
  change Calls Tryd.prog 63 _ _ (fun e w' => e = .returned (.tuple #[.int .u64 0, .iface 84 (.int .i64 2)]) ∧ _) at c
  have hb := Lib.bytesWorld_below w 5 t
  generalize Lib.bytesWorld w 5 t = W1 at *
  have ht : t.size ≤ 281474976710656 := by omega
  clear hv h2
  obtain ⟨te, pe, hg⟩ := (hG.later hb).syn
  have cE := Tryd.strconv_toError_syntax ⟨#[80, 97, 114, 115, 101, 85, 105, 110, 116]⟩ t 16 8 (.iface te pe) W1 ht hg (Or.inr ⟨te, pe, rfl⟩)
  clear hg
  go_enter Tryd.func69, Tryd.ntmps69
  go_wp2_with fail
  refine c.mono ?_
  rintro e w' ⟨rfl, rfl⟩
  go_wp2_with fail
  refine cE.mono ?_
  rintro e w2 ⟨N, rfl, _, _, hb2⟩
  go_wp2
  go_ret2
  exact ⟨N, rfl, hb.trans (hb2.mono hb.size)⟩

/-- The escape that the bytes begin with, and how long it is. -/
def escL : List UInt8 → Option (UInt8 × Nat)
  | c :: d :: r => if c = 92 then
      if d = 110 then some (10, 2)
      else if d = 116 then some (9, 2)
      else if d = 34 ∨ d = 92 then some (d, 2)
      else if d = 120 then (match r with
        | x :: y :: _ => (match hexFrom 0 [x, y] with
          | some v => some (UInt8.ofNat v, 4)
          | none => none)
        | _ => none)
      else none
    else none
  | _ => none

def escTuple : Option (UInt8 × Nat) → Value
  | some (b, n) => .tuple #[.int .u8 b.toNat, .int .i64 n]
  | none => .tuple #[.int .u8 0, .int .i64 0]

def hexEsc : List UInt8 → Option (UInt8 × Nat)
  | _ :: _ :: x :: y :: _ => (match hexFrom 0 [x, y] with
      | some v => some (UInt8.ofNat v, 4)
      | none => none)
  | _ => none

theorem hexV_le (c : UInt8) (v : Nat) (h : hexV c = some v) : v ≤ 15 := by
  unfold hexV at h
  split at h
  · cases h; omega
  · split at h
    · cases h; omega
    · split at h
      · cases h; omega
      · cases h

theorem hexFrom_le (x y : UInt8) (v : Nat) (h : hexFrom 0 [x, y] = some v) : v ≤ 255 := by
  simp only [hexFrom] at h
  cases hx : hexV x with
  | none => rw [hx] at h; cases h
  | some a =>
    rw [hx] at h
    cases hy : hexV y with
    | none => rw [hy] at h; cases h
    | some b =>
      rw [hy] at h
      have := hexV_le x a hx
      have := hexV_le y b hy
      cases h; omega

theorem cut4 (s : ByteArray) (h : 4 ≤ s.size) : ∃ a b x y r, s.data.toList = a :: b :: x :: y :: r ∧ (s.extract 2 4).data.toList = [x, y] := by
  have hl : 4 ≤ s.data.toList.length := by simpa using h
  match hs : s.data.toList, hl with
  | a :: b :: x :: y :: r, _ => exact ⟨a, b, x, y, r, rfl, by rw [Lib.extract_data, hs]; rfl⟩

theorem short4 (s : ByteArray) (h : s.size < 4) : hexEsc s.data.toList = none := by
  have hl : s.data.toList.length < 4 := by simpa using h
  match hs : s.data.toList, hl with
  | [], _ => rfl
  | [_], _ => rfl
  | [_, _], _ => rfl
  | [_, _, _], _ => rfl

set_option maxHeartbeats 1000000 in
theorem hexEscape_any (s : ByteArray) (hs : s.size ≤ 65536) (w : World) (hG : Gl w) :
    Calls Tryd.prog 61 #[.string s] w fun e w' => e = .returned (escTuple (hexEsc s.data.toList)) ∧ Below w.heap.size w w' := by
  by_cases h4 : s.size < 4
  · rw [short4 s h4]
    go_enter Tryd.func61, Tryd.ntmps61
    go_wp2
    go_ret2
    exact ⟨rfl, Below.refl _ _⟩
  · obtain ⟨a, b, x, y, r, hl, hx⟩ := cut4 s (by omega)
    rw [hl]
    have hz : (s.extract 2 4).size = 2 := by simp; omega
    cases hv : hexFrom 0 [x, y] with
    | none =>
      have HS : Hid (hexEsc (a :: b :: x :: y :: r) = none) := by simp only [Hid, hexEsc, hv]
      have cP := pub16_none (s.extract 2 4) hz (by rw [hx]; exact hv) w hG
      clear hv hz hx hl
      go_enter Tryd.func61, Tryd.ntmps61
      go_wp2_with fail
      refine cP.mono ?_
      rintro e w2 ⟨N, rfl, hb⟩
      go_wp2
      go_ret2
      exact ⟨by rw [HS.out]; rfl, hb⟩
    | some v =>
      have HS : Hid (hexEsc (a :: b :: x :: y :: r) = some (UInt8.ofNat v, 4)) := by simp only [Hid, hexEsc, hv]
      have cP := pub16_some (s.extract 2 4) hz v (by rw [hx]; exact hv) w
      have hv255 := hexFrom_le x y v hv
      clear hv hz hx hl
      go_enter Tryd.func61, Tryd.ntmps61
      go_wp2_with fail
      refine cP.mono ?_
      rintro e w2 ⟨rfl, hb⟩
      go_wp2
      go_ret2
      exact ⟨by rw [HS.out]; simp [escTuple]; omega, hb⟩

theorem bne92 {c : UInt8} (h : ¬ c = 92) : ((c.toNat : Int) != 92) = true := by
  rw [bne_iff_ne]; intro e; exact h (UInt8.toNat_inj.1 (by rw [show (92 : UInt8).toNat = 92 from rfl]; omega))
theorem beqF {c d : UInt8} {n : Int} (hn : (d.toNat : Int) = n) (h : ¬ c = d) : ((c.toNat : Int) == n) = false := by
  rw [beq_eq_false_iff_ne]; intro e; exact h (UInt8.toNat_inj.1 (by omega))

theorem cut2 (s : ByteArray) (h : 2 ≤ s.size) : ∃ r, s.data.toList = (s[0]'(by omega)) :: (s[1]'(by omega)) :: r := by
  have hl : 2 ≤ s.data.toList.length := by simpa using h
  match hs : s.data.toList, hl with
  | a :: b :: r, _ =>
    have h0 : s[0]'(by omega) = a := by
      have : s.data.toList[0]? = some a := by rw [hs]; rfl
      rw [List.getElem?_eq_getElem (by omega)] at this
      exact Option.some.inj this
    have h1 : s[1]'(by omega) = b := by
      have : s.data.toList[1]? = some b := by rw [hs]; rfl
      rw [List.getElem?_eq_getElem (by omega)] at this
      exact Option.some.inj this
    exact ⟨r, by rw [h0, h1]⟩

theorem escL_hex (c d : UInt8) (r : List UInt8) (hc : c = 92) (hd : d = 120) : escL (c :: d :: r) = hexEsc (c :: d :: r) := by
  subst hc; subst hd
  match r with
  | [] => rfl
  | [_] => rfl
  | x :: y :: r => rfl

set_option maxHeartbeats 2000000 in
theorem escape_any (s : ByteArray) (hs : s.size ≤ 65536) (w : World) (hG : Gl w) :
    Calls Tryd.prog 49 #[.string s] w fun e w' => e = .returned (escTuple (escL s.data.toList)) ∧ Below w.heap.size w w' := by
  by_cases h2 : s.size < 2
  · have HS : Hid (escL s.data.toList = none) := by
      have hl : s.data.toList.length < 2 := by simpa using h2
      match hs : s.data.toList, hl with
      | [], _ => rfl
      | [_], _ => rfl
    go_enter Tryd.func49, Tryd.ntmps49
    go_wp2
    go_ret2
    exact ⟨by rw [HS.out]; rfl, Below.refl _ _⟩
  · obtain ⟨r, hl⟩ := cut2 s (by omega)
    have cH := hexEscape_any s hs w hG
    rw [hl] at cH ⊢
    have b1 := (s[1]'(by omega)).toNat_lt
    generalize hc : s[0]'(by omega) = c at *
    generalize hd : s[1]'(by omega) = d at *
    have hc' : s[0]'(by omega) = c := hc
    have hd' : s[1]'(by omega) = d := hd
    clear hl hc hd
    by_cases h92 : c = 92
    · have c92 : ((c.toNat : Int) != 92) = false := by subst h92; rfl
      by_cases d110 : d = 110
      · have HS : Hid (escL (c :: d :: r) = some (10, 2)) := by subst h92; subst d110; rfl
        have e1 : ((d.toNat : Int) == 110) = true := by subst d110; rfl
        clear h92 d110
        go_enter Tryd.func49, Tryd.ntmps49
        go_wp2
        go_ret2
        exact ⟨by rw [HS.out]; rfl, Below.refl _ _⟩
      have e1 := beqF (n := 110) rfl d110
      by_cases d116 : d = 116
      · have HS : Hid (escL (c :: d :: r) = some (9, 2)) := by subst h92; subst d116; rfl
        have e2 : ((d.toNat : Int) == 116) = true := by subst d116; rfl
        clear h92 d110 d116
        go_enter Tryd.func49, Tryd.ntmps49
        go_wp2
        go_ret2
        exact ⟨by rw [HS.out]; rfl, Below.refl _ _⟩
      have e2 := beqF (n := 116) rfl d116
      by_cases d34 : d = 34
      · have HS : Hid (escL (c :: d :: r) = some (d, 2)) := by subst h92; subst d34; rfl
        have e3 : ((d.toNat : Int) == 34) = true := by subst d34; rfl
        clear h92 d110 d116 d34
        go_enter Tryd.func49, Tryd.ntmps49
        go_wp2
        go_ret2
        exact ⟨by rw [HS.out]; rfl, Below.refl _ _⟩
      have e3 := beqF (n := 34) rfl d34
      by_cases d92 : d = 92
      · have HS : Hid (escL (c :: d :: r) = some (d, 2)) := by subst h92; subst d92; rfl
        have e4 : ((d.toNat : Int) == 92) = true := by subst d92; rfl
        clear h92 d110 d116 d34 d92
        go_enter Tryd.func49, Tryd.ntmps49
        go_wp2
        go_ret2
        exact ⟨by rw [HS.out]; rfl, Below.refl _ _⟩
      have e4 := beqF (n := 92) rfl d92
      by_cases d120 : d = 120
      · have HS : Hid (escL (c :: d :: r) = hexEsc (c :: d :: r)) := escL_hex c d r h92 d120
        have e5 : ((d.toNat : Int) == 120) = true := by subst d120; rfl
        clear h92 d110 d116 d34 d92 d120
        cases hx : hexEsc (c :: d :: r) with
        | none =>
          rw [hx] at cH
          have HX : Hid (hexEsc (c :: d :: r) = none) := hx
          clear hx
          change Calls Tryd.prog 61 _ _ (fun e w' => e = .returned (.tuple #[.int .u8 0, .int .i64 0]) ∧ _) at cH
          go_enter Tryd.func49, Tryd.ntmps49
          go_wp2_with (go_at_call 61; refine cH.mono ?_; rintro e w2 ⟨rfl, hb⟩)
          go_ret2
          exact ⟨by rw [HS.out, HX.out]; rfl, hb⟩
        | some bn =>
          obtain ⟨b, n⟩ := bn
          rw [hx] at cH
          have HX : Hid (hexEsc (c :: d :: r) = some (b, n)) := hx
          clear hx
          change Calls Tryd.prog 61 _ _ (fun e w' => e = .returned (.tuple #[.int .u8 b.toNat, .int .i64 n]) ∧ _) at cH
          go_enter Tryd.func49, Tryd.ntmps49
          go_wp2_with (go_at_call 61; refine cH.mono ?_; rintro e w2 ⟨rfl, hb⟩)
          go_ret2
          exact ⟨by rw [HS.out, HX.out]; rfl, hb⟩
      have e5 := beqF (n := 120) rfl d120
      have HS : Hid (escL (c :: d :: r) = none) := by
        subst h92
        simp [Hid, escL, d110, d116, d34, d92, d120]
      clear h92 d110 d116 d34 d92 d120 cH
      go_enter Tryd.func49, Tryd.ntmps49
      go_wp2
      go_ret2
      exact ⟨by rw [HS.out]; rfl, Below.refl _ _⟩
    · have c92 := bne92 h92
      have HS : Hid (escL (c :: d :: r) = none) := by simp [Hid, escL, h92]
      clear h92 cH
      go_enter Tryd.func49, Tryd.ntmps49
      go_wp2
      go_ret2
      exact ⟨by rw [HS.out]; rfl, Below.refl _ _⟩

end Go.Proofs.YthggaojpkfdggaaDoor
