/- The document's is, where it answers false. -/
import Derived.Test.YtnkphlkjhgngkaaGreatDoorRfDJo
namespace Go.Proofs.YtnkphlkjhgngkaaGreatDoor
open Go.RowKit
attribute [local go_sem ↓] Go.wp_at_zero Go.wp_at_succ

set_option maxRecDepth 20000 in
set_option maxHeartbeats 4000000 in
theorem isF_ok (n : Nat) (k : Int) (x : List UInt8) (m : Int) (ks : List Tr) (ao : Option Addr) (c : Nat) (s : Int) (w : World) (_hxm : (⟨x.toArray⟩ : ByteArray).size ≤ maxLen)
    (xs : List Int) (rest tx : Int) (HX : Hid (isP (n + 1) (.mk k x m ks) s = false))
    (cSh : ∀ W, Below w.heap.size w W → Calls Tryz.prog 48 #[.agg #[.int .i64 k, .string ⟨x.toArray⟩, .int .i64 m, .slice ao ks.length c], .int .i64 s] W (OutH W (xs, rest, tx, false))) :
    Calls Tryz.prog 28 #[.agg #[.int .i64 k, .string ⟨x.toArray⟩, .int .i64 m, .slice ao ks.length c], .int .i64 s] w fun e w' => e = .returned (.bool (isP (n + 1) (.mk k x m ks) s)) ∧ Below w.heap.size w w' := by
  have hX0 := Hx.start (w := w) (c0 := .int .i64 k) (c1 := .string ⟨x.toArray⟩) (c2 := .int .i64 m) (c3 := .slice ao ks.length c)
  go_enter Tryz.func28, Tryz.ntmps28
  go_wp2_with (first
    | (go_at_call 48; refine (cSh _ hX0.out).mono ?_; rintro e w1 ⟨sl1, rfl, hs1, hb1⟩
       have hX1 := hX0.next hb1
       have hx1 := hX1.cells
       obtain ⟨ao1, c1, rfl, _⟩ := hs1
       obtain ⟨x0, x1, x2, x3⟩ := hx1))
  go_ret
  exact ⟨congrArg (fun b => Ending.returned (Value.bool b)) HX.out.symm, hX1.out⟩
set_option maxRecDepth 20000 in
set_option maxHeartbeats 4000000 in
theorem isF_len (n : Nat) (k : Int) (x : List UInt8) (m : Int) (ks : List Tr) (ao : Option Addr) (c : Nat) (s : Int) (w : World) (_hxm : (⟨x.toArray⟩ : ByteArray).size ≤ maxLen)
    (xs : List Int) (rest tx : Int) (h1 : ks.length < xs.length) (HX : Hid (isP (n + 1) (.mk k x m ks) s = false))
    (cSh : ∀ W, Below w.heap.size w W → Calls Tryz.prog 48 #[.agg #[.int .i64 k, .string ⟨x.toArray⟩, .int .i64 m, .slice ao ks.length c], .int .i64 s] W (OutH W (xs, rest, tx, true))) :
    Calls Tryz.prog 28 #[.agg #[.int .i64 k, .string ⟨x.toArray⟩, .int .i64 m, .slice ao ks.length c], .int .i64 s] w fun e w' => e = .returned (.bool (isP (n + 1) (.mk k x m ks) s)) ∧ Below w.heap.size w w' := by
  have hX0 := Hx.start (w := w) (c0 := .int .i64 k) (c1 := .string ⟨x.toArray⟩) (c2 := .int .i64 m) (c3 := .slice ao ks.length c)
  have d1 : decide (ks.length < xs.length) = true := decide_eq_true h1
  go_enter Tryz.func28, Tryz.ntmps28
  go_wp2_with (first
    | (go_at_call 48; refine (cSh _ hX0.out).mono ?_; rintro e w1 ⟨sl1, rfl, hs1, hb1⟩
       have hX1 := hX0.next hb1
       have hx1 := hX1.cells
       obtain ⟨ao1, c1, rfl, _⟩ := hs1
       obtain ⟨x0, x1, x2, x3⟩ := hx1))
  go_ret
  exact ⟨congrArg (fun b => Ending.returned (Value.bool b)) HX.out.symm, hX1.out⟩
set_option maxRecDepth 20000 in
set_option maxHeartbeats 4000000 in
theorem isF_more (n : Nat) (k : Int) (x : List UInt8) (m : Int) (ks : List Tr) (ao : Option Addr) (c : Nat) (s : Int) (w : World) (_hxm : (⟨x.toArray⟩ : ByteArray).size ≤ maxLen)
    (xs : List Int) (rest tx : Int) (hr : rest = 0) (h1 : xs.length < ks.length) (HX : Hid (isP (n + 1) (.mk k x m ks) s = false))
    (cSh : ∀ W, Below w.heap.size w W → Calls Tryz.prog 48 #[.agg #[.int .i64 k, .string ⟨x.toArray⟩, .int .i64 m, .slice ao ks.length c], .int .i64 s] W (OutH W (xs, rest, tx, true))) :
    Calls Tryz.prog 28 #[.agg #[.int .i64 k, .string ⟨x.toArray⟩, .int .i64 m, .slice ao ks.length c], .int .i64 s] w fun e w' => e = .returned (.bool (isP (n + 1) (.mk k x m ks) s)) ∧ Below w.heap.size w w' := by
  have hX0 := Hx.start (w := w) (c0 := .int .i64 k) (c1 := .string ⟨x.toArray⟩) (c2 := .int .i64 m) (c3 := .slice ao ks.length c)
  subst hr
  have d1 : decide (ks.length < xs.length) = false := decide_eq_false (by omega)
  have d2 : decide (xs.length < ks.length) = true := decide_eq_true h1
  go_enter Tryz.func28, Tryz.ntmps28
  go_wp2_with (first
    | (go_at_call 48; refine (cSh _ hX0.out).mono ?_; rintro e w1 ⟨sl1, rfl, hs1, hb1⟩
       have hX1 := hX0.next hb1
       have hx1 := hX1.cells
       obtain ⟨ao1, c1, rfl, _⟩ := hs1
       obtain ⟨x0, x1, x2, x3⟩ := hx1))
  go_ret
  exact ⟨congrArg (fun b => Ending.returned (Value.bool b)) HX.out.symm, hX1.out⟩
set_option maxRecDepth 20000 in
set_option maxHeartbeats 4000000 in
theorem isF_num0 (n : Nat) (k : Int) (x : List UInt8) (m : Int) (ks : List Tr) (ao : Option Addr) (c : Nat) (s : Int) (w : World) (_hxm : (⟨x.toArray⟩ : ByteArray).size ≤ maxLen)
    (xs : List Int) (rest tx : Int) (hr : rest = 0) (h1 : xs.length = ks.length) (hm : m ≠ 0) (hk2 : numK k = false) (HX : Hid (isP (n + 1) (.mk k x m ks) s = false))
    (cSh : ∀ W, Below w.heap.size w W → Calls Tryz.prog 48 #[.agg #[.int .i64 k, .string ⟨x.toArray⟩, .int .i64 m, .slice ao ks.length c], .int .i64 s] W (OutH W (xs, rest, tx, true))) :
    Calls Tryz.prog 28 #[.agg #[.int .i64 k, .string ⟨x.toArray⟩, .int .i64 m, .slice ao ks.length c], .int .i64 s] w fun e w' => e = .returned (.bool (isP (n + 1) (.mk k x m ks) s)) ∧ Below w.heap.size w w' := by
  have hX0 := Hx.start (w := w) (c0 := .int .i64 k) (c1 := .string ⟨x.toArray⟩) (c2 := .int .i64 m) (c3 := .slice ao ks.length c)
  subst hr
  have d1 : decide ((ks.length : Int) < xs.length) = false := decide_eq_false (by omega)
  have d2 : decide ((xs.length : Int) < ks.length) = false := decide_eq_false (by omega)
  have m0 : (m != 0) = true := by simp [hm]
  have nkT : ∀ W : World, Calls Tryz.prog 49 #[.int .i64 k] W fun e w' => e = .returned (.bool false) ∧ w' = W := fun W => by have h := numK_any k W; rw [hk2] at h; exact h
  go_enter Tryz.func28, Tryz.ntmps28
  go_wp2_with (first
    | (go_at_call 48; refine (cSh _ hX0.out).mono ?_; rintro e w1 ⟨sl1, rfl, hs1, hb1⟩
       have hX1 := hX0.next hb1
       have hx1 := hX1.cells
       obtain ⟨ao1, c1, rfl, _⟩ := hs1
       obtain ⟨x0, x1, x2, x3⟩ := hx1)
    | (go_at_call 49; refine (nkT _).mono ?_; rintro e w2 ⟨rfl, hw2⟩; obtain rfl := hw2.symm))
  go_ret
  exact ⟨congrArg (fun b => Ending.returned (Value.bool b)) HX.out.symm, hX1.out⟩
set_option maxRecDepth 20000 in
set_option maxHeartbeats 4000000 in
theorem isF_num1 (n : Nat) (k : Int) (x : List UInt8) (m : Int) (ks : List Tr) (ao : Option Addr) (c : Nat) (s : Int) (w : World) (_hxm : (⟨x.toArray⟩ : ByteArray).size ≤ maxLen)
    (xs : List Int) (rest tx : Int) (hr : rest ≠ 0) (h1 : xs.length ≤ ks.length) (hm : m ≠ 0) (hk2 : numK k = false) (HX : Hid (isP (n + 1) (.mk k x m ks) s = false))
    (cSh : ∀ W, Below w.heap.size w W → Calls Tryz.prog 48 #[.agg #[.int .i64 k, .string ⟨x.toArray⟩, .int .i64 m, .slice ao ks.length c], .int .i64 s] W (OutH W (xs, rest, tx, true))) :
    Calls Tryz.prog 28 #[.agg #[.int .i64 k, .string ⟨x.toArray⟩, .int .i64 m, .slice ao ks.length c], .int .i64 s] w fun e w' => e = .returned (.bool (isP (n + 1) (.mk k x m ks) s)) ∧ Below w.heap.size w w' := by
  have hX0 := Hx.start (w := w) (c0 := .int .i64 k) (c1 := .string ⟨x.toArray⟩) (c2 := .int .i64 m) (c3 := .slice ao ks.length c)
  have r0 : (rest == 0) = false := beq_false_of_ne hr
  have d1 : decide (ks.length < xs.length) = false := decide_eq_false (by omega)
  clear hr
  have m0 : (m != 0) = true := by simp [hm]
  have nkT : ∀ W : World, Calls Tryz.prog 49 #[.int .i64 k] W fun e w' => e = .returned (.bool false) ∧ w' = W := fun W => by have h := numK_any k W; rw [hk2] at h; exact h
  go_enter Tryz.func28, Tryz.ntmps28
  go_wp2_with (first
    | (go_at_call 48; refine (cSh _ hX0.out).mono ?_; rintro e w1 ⟨sl1, rfl, hs1, hb1⟩
       have hX1 := hX0.next hb1
       have hx1 := hX1.cells
       obtain ⟨ao1, c1, rfl, _⟩ := hs1
       obtain ⟨x0, x1, x2, x3⟩ := hx1)
    | (go_at_call 49; refine (nkT _).mono ?_; rintro e w2 ⟨rfl, hw2⟩; obtain rfl := hw2.symm))
  go_ret
  exact ⟨congrArg (fun b => Ending.returned (Value.bool b)) HX.out.symm, hX1.out⟩
set_option maxRecDepth 20000 in
set_option maxHeartbeats 4000000 in
theorem isF_tx00 (n : Nat) (k : Int) (x : List UInt8) (m : Int) (ks : List Tr) (ao : Option Addr) (c : Nat) (s : Int) (w : World) (_hxm : (⟨x.toArray⟩ : ByteArray).size ≤ maxLen)
    (xs : List Int) (rest tx : Int) (hr : rest = 0) (h1 : xs.length = ks.length) (hm : m = 0) (ht : tx = 0) (hx : x ≠ []) (HX : Hid (isP (n + 1) (.mk k x m ks) s = false))
    (cSh : ∀ W, Below w.heap.size w W → Calls Tryz.prog 48 #[.agg #[.int .i64 k, .string ⟨x.toArray⟩, .int .i64 m, .slice ao ks.length c], .int .i64 s] W (OutH W (xs, rest, tx, true))) :
    Calls Tryz.prog 28 #[.agg #[.int .i64 k, .string ⟨x.toArray⟩, .int .i64 m, .slice ao ks.length c], .int .i64 s] w fun e w' => e = .returned (.bool (isP (n + 1) (.mk k x m ks) s)) ∧ Below w.heap.size w w' := by
  have hX0 := Hx.start (w := w) (c0 := .int .i64 k) (c1 := .string ⟨x.toArray⟩) (c2 := .int .i64 m) (c3 := .slice ao ks.length c)
  subst hr
  have d1 : decide ((ks.length : Int) < xs.length) = false := decide_eq_false (by omega)
  have d2 : decide ((xs.length : Int) < ks.length) = false := decide_eq_false (by omega)
  subst hm
  subst ht
  have ex : (x == []) = false := by simpa using hx
  go_enter Tryz.func28, Tryz.ntmps28
  go_wp2_with (first
    | (go_at_call 48; refine (cSh _ hX0.out).mono ?_; rintro e w1 ⟨sl1, rfl, hs1, hb1⟩
       have hX1 := hX0.next hb1
       have hx1 := hX1.cells
       obtain ⟨ao1, c1, rfl, _⟩ := hs1
       obtain ⟨x0, x1, x2, x3⟩ := hx1))
  go_ret
  exact ⟨congrArg (fun b => Ending.returned (Value.bool b)) HX.out.symm, hX1.out⟩
set_option maxRecDepth 20000 in
set_option maxHeartbeats 4000000 in
theorem isF_nm00 (n : Nat) (k : Int) (x : List UInt8) (m : Int) (ks : List Tr) (ao : Option Addr) (c : Nat) (s : Int) (w : World) (hxm : (⟨x.toArray⟩ : ByteArray).size ≤ maxLen)
    (xs : List Int) (rest tx : Int) (hr : rest = 0) (h1 : xs.length = ks.length) (hm : m = 0) (ht : tx = 1) (hx : nameP x = false) (HX : Hid (isP (n + 1) (.mk k x m ks) s = false))
    (cSh : ∀ W, Below w.heap.size w W → Calls Tryz.prog 48 #[.agg #[.int .i64 k, .string ⟨x.toArray⟩, .int .i64 m, .slice ao ks.length c], .int .i64 s] W (OutH W (xs, rest, tx, true))) :
    Calls Tryz.prog 28 #[.agg #[.int .i64 k, .string ⟨x.toArray⟩, .int .i64 m, .slice ao ks.length c], .int .i64 s] w fun e w' => e = .returned (.bool (isP (n + 1) (.mk k x m ks) s)) ∧ Below w.heap.size w w' := by
  have hX0 := Hx.start (w := w) (c0 := .int .i64 k) (c1 := .string ⟨x.toArray⟩) (c2 := .int .i64 m) (c3 := .slice ao ks.length c)
  subst hr
  have d1 : decide ((ks.length : Int) < xs.length) = false := decide_eq_false (by omega)
  have d2 : decide ((xs.length : Int) < ks.length) = false := decide_eq_false (by omega)
  subst hm
  subst ht
  have nmT : ∀ W : World, Calls Tryz.prog 50 #[.string ⟨x.toArray⟩] W fun e w' => e = .returned (.bool false) ∧ Below W.heap.size W w' := fun W => by have h := nmR_any ⟨x.toArray⟩ hxm W; rw [show nameP (⟨x.toArray⟩ : ByteArray).data.toList = false from hx] at h; exact h
  go_enter Tryz.func28, Tryz.ntmps28
  go_wp2_with (first
    | (go_at_call 48; refine (cSh _ hX0.out).mono ?_; rintro e w1 ⟨sl1, rfl, hs1, hb1⟩
       have hX1 := hX0.next hb1
       have hx1 := hX1.cells
       obtain ⟨ao1, c1, rfl, _⟩ := hs1
       obtain ⟨x0, x1, x2, x3⟩ := hx1)
    | (go_at_call 50; refine (nmT _).mono ?_; rintro e w3 ⟨rfl, hb3⟩
       have hX3 := hX1.next hb3
       clear x0 x1 x2 x3
       obtain ⟨x0, x1, x2, x3⟩ := hX3.cells))
  go_ret
  exact ⟨congrArg (fun b => Ending.returned (Value.bool b)) HX.out.symm, hX3.out⟩
set_option maxRecDepth 20000 in
set_option maxHeartbeats 4000000 in
theorem isF_tx01 (n : Nat) (k : Int) (x : List UInt8) (m : Int) (ks : List Tr) (ao : Option Addr) (c : Nat) (s : Int) (w : World) (_hxm : (⟨x.toArray⟩ : ByteArray).size ≤ maxLen)
    (xs : List Int) (rest tx : Int) (hr : rest = 0) (h1 : xs.length = ks.length) (hm : m ≠ 0) (hk2 : numK k = true) (ht : tx = 0) (hx : x ≠ []) (HX : Hid (isP (n + 1) (.mk k x m ks) s = false))
    (cSh : ∀ W, Below w.heap.size w W → Calls Tryz.prog 48 #[.agg #[.int .i64 k, .string ⟨x.toArray⟩, .int .i64 m, .slice ao ks.length c], .int .i64 s] W (OutH W (xs, rest, tx, true))) :
    Calls Tryz.prog 28 #[.agg #[.int .i64 k, .string ⟨x.toArray⟩, .int .i64 m, .slice ao ks.length c], .int .i64 s] w fun e w' => e = .returned (.bool (isP (n + 1) (.mk k x m ks) s)) ∧ Below w.heap.size w w' := by
  have hX0 := Hx.start (w := w) (c0 := .int .i64 k) (c1 := .string ⟨x.toArray⟩) (c2 := .int .i64 m) (c3 := .slice ao ks.length c)
  subst hr
  have d1 : decide ((ks.length : Int) < xs.length) = false := decide_eq_false (by omega)
  have d2 : decide ((xs.length : Int) < ks.length) = false := decide_eq_false (by omega)
  have m0 : (m != 0) = true := by simp [hm]
  subst ht
  have ex : (x == []) = false := by simpa using hx
  have nkT : ∀ W : World, Calls Tryz.prog 49 #[.int .i64 k] W fun e w' => e = .returned (.bool true) ∧ w' = W := fun W => by have h := numK_any k W; rw [hk2] at h; exact h
  go_enter Tryz.func28, Tryz.ntmps28
  go_wp2_with (first
    | (go_at_call 48; refine (cSh _ hX0.out).mono ?_; rintro e w1 ⟨sl1, rfl, hs1, hb1⟩
       have hX1 := hX0.next hb1
       have hx1 := hX1.cells
       obtain ⟨ao1, c1, rfl, _⟩ := hs1
       obtain ⟨x0, x1, x2, x3⟩ := hx1)
    | (go_at_call 49; refine (nkT _).mono ?_; rintro e w2 ⟨rfl, hw2⟩; obtain rfl := hw2.symm))
  go_ret
  exact ⟨congrArg (fun b => Ending.returned (Value.bool b)) HX.out.symm, hX1.out⟩
set_option maxRecDepth 20000 in
set_option maxHeartbeats 4000000 in
theorem isF_nm01 (n : Nat) (k : Int) (x : List UInt8) (m : Int) (ks : List Tr) (ao : Option Addr) (c : Nat) (s : Int) (w : World) (hxm : (⟨x.toArray⟩ : ByteArray).size ≤ maxLen)
    (xs : List Int) (rest tx : Int) (hr : rest = 0) (h1 : xs.length = ks.length) (hm : m ≠ 0) (hk2 : numK k = true) (ht : tx = 1) (hx : nameP x = false) (HX : Hid (isP (n + 1) (.mk k x m ks) s = false))
    (cSh : ∀ W, Below w.heap.size w W → Calls Tryz.prog 48 #[.agg #[.int .i64 k, .string ⟨x.toArray⟩, .int .i64 m, .slice ao ks.length c], .int .i64 s] W (OutH W (xs, rest, tx, true))) :
    Calls Tryz.prog 28 #[.agg #[.int .i64 k, .string ⟨x.toArray⟩, .int .i64 m, .slice ao ks.length c], .int .i64 s] w fun e w' => e = .returned (.bool (isP (n + 1) (.mk k x m ks) s)) ∧ Below w.heap.size w w' := by
  have hX0 := Hx.start (w := w) (c0 := .int .i64 k) (c1 := .string ⟨x.toArray⟩) (c2 := .int .i64 m) (c3 := .slice ao ks.length c)
  subst hr
  have d1 : decide ((ks.length : Int) < xs.length) = false := decide_eq_false (by omega)
  have d2 : decide ((xs.length : Int) < ks.length) = false := decide_eq_false (by omega)
  have m0 : (m != 0) = true := by simp [hm]
  subst ht
  have nkT : ∀ W : World, Calls Tryz.prog 49 #[.int .i64 k] W fun e w' => e = .returned (.bool true) ∧ w' = W := fun W => by have h := numK_any k W; rw [hk2] at h; exact h
  have nmT : ∀ W : World, Calls Tryz.prog 50 #[.string ⟨x.toArray⟩] W fun e w' => e = .returned (.bool false) ∧ Below W.heap.size W w' := fun W => by have h := nmR_any ⟨x.toArray⟩ hxm W; rw [show nameP (⟨x.toArray⟩ : ByteArray).data.toList = false from hx] at h; exact h
  go_enter Tryz.func28, Tryz.ntmps28
  go_wp2_with (first
    | (go_at_call 48; refine (cSh _ hX0.out).mono ?_; rintro e w1 ⟨sl1, rfl, hs1, hb1⟩
       have hX1 := hX0.next hb1
       have hx1 := hX1.cells
       obtain ⟨ao1, c1, rfl, _⟩ := hs1
       obtain ⟨x0, x1, x2, x3⟩ := hx1)
    | (go_at_call 49; refine (nkT _).mono ?_; rintro e w2 ⟨rfl, hw2⟩; obtain rfl := hw2.symm)
    | (go_at_call 50; refine (nmT _).mono ?_; rintro e w3 ⟨rfl, hb3⟩
       have hX3 := hX1.next hb3
       clear x0 x1 x2 x3
       obtain ⟨x0, x1, x2, x3⟩ := hX3.cells))
  go_ret
  exact ⟨congrArg (fun b => Ending.returned (Value.bool b)) HX.out.symm, hX3.out⟩
set_option maxRecDepth 20000 in
set_option maxHeartbeats 4000000 in
theorem isF_tx10 (n : Nat) (k : Int) (x : List UInt8) (m : Int) (ks : List Tr) (ao : Option Addr) (c : Nat) (s : Int) (w : World) (_hxm : (⟨x.toArray⟩ : ByteArray).size ≤ maxLen)
    (xs : List Int) (rest tx : Int) (hr : rest ≠ 0) (h1 : xs.length ≤ ks.length) (hm : m = 0) (ht : tx = 0) (hx : x ≠ []) (HX : Hid (isP (n + 1) (.mk k x m ks) s = false))
    (cSh : ∀ W, Below w.heap.size w W → Calls Tryz.prog 48 #[.agg #[.int .i64 k, .string ⟨x.toArray⟩, .int .i64 m, .slice ao ks.length c], .int .i64 s] W (OutH W (xs, rest, tx, true))) :
    Calls Tryz.prog 28 #[.agg #[.int .i64 k, .string ⟨x.toArray⟩, .int .i64 m, .slice ao ks.length c], .int .i64 s] w fun e w' => e = .returned (.bool (isP (n + 1) (.mk k x m ks) s)) ∧ Below w.heap.size w w' := by
  have hX0 := Hx.start (w := w) (c0 := .int .i64 k) (c1 := .string ⟨x.toArray⟩) (c2 := .int .i64 m) (c3 := .slice ao ks.length c)
  have r0 : (rest == 0) = false := beq_false_of_ne hr
  have d1 : decide (ks.length < xs.length) = false := decide_eq_false (by omega)
  clear hr
  subst hm
  subst ht
  have ex : (x == []) = false := by simpa using hx
  go_enter Tryz.func28, Tryz.ntmps28
  go_wp2_with (first
    | (go_at_call 48; refine (cSh _ hX0.out).mono ?_; rintro e w1 ⟨sl1, rfl, hs1, hb1⟩
       have hX1 := hX0.next hb1
       have hx1 := hX1.cells
       obtain ⟨ao1, c1, rfl, _⟩ := hs1
       obtain ⟨x0, x1, x2, x3⟩ := hx1))
  go_ret
  exact ⟨congrArg (fun b => Ending.returned (Value.bool b)) HX.out.symm, hX1.out⟩
set_option maxRecDepth 20000 in
set_option maxHeartbeats 4000000 in
theorem isF_nm10 (n : Nat) (k : Int) (x : List UInt8) (m : Int) (ks : List Tr) (ao : Option Addr) (c : Nat) (s : Int) (w : World) (hxm : (⟨x.toArray⟩ : ByteArray).size ≤ maxLen)
    (xs : List Int) (rest tx : Int) (hr : rest ≠ 0) (h1 : xs.length ≤ ks.length) (hm : m = 0) (ht : tx = 1) (hx : nameP x = false) (HX : Hid (isP (n + 1) (.mk k x m ks) s = false))
    (cSh : ∀ W, Below w.heap.size w W → Calls Tryz.prog 48 #[.agg #[.int .i64 k, .string ⟨x.toArray⟩, .int .i64 m, .slice ao ks.length c], .int .i64 s] W (OutH W (xs, rest, tx, true))) :
    Calls Tryz.prog 28 #[.agg #[.int .i64 k, .string ⟨x.toArray⟩, .int .i64 m, .slice ao ks.length c], .int .i64 s] w fun e w' => e = .returned (.bool (isP (n + 1) (.mk k x m ks) s)) ∧ Below w.heap.size w w' := by
  have hX0 := Hx.start (w := w) (c0 := .int .i64 k) (c1 := .string ⟨x.toArray⟩) (c2 := .int .i64 m) (c3 := .slice ao ks.length c)
  have r0 : (rest == 0) = false := beq_false_of_ne hr
  have d1 : decide (ks.length < xs.length) = false := decide_eq_false (by omega)
  clear hr
  subst hm
  subst ht
  have nmT : ∀ W : World, Calls Tryz.prog 50 #[.string ⟨x.toArray⟩] W fun e w' => e = .returned (.bool false) ∧ Below W.heap.size W w' := fun W => by have h := nmR_any ⟨x.toArray⟩ hxm W; rw [show nameP (⟨x.toArray⟩ : ByteArray).data.toList = false from hx] at h; exact h
  go_enter Tryz.func28, Tryz.ntmps28
  go_wp2_with (first
    | (go_at_call 48; refine (cSh _ hX0.out).mono ?_; rintro e w1 ⟨sl1, rfl, hs1, hb1⟩
       have hX1 := hX0.next hb1
       have hx1 := hX1.cells
       obtain ⟨ao1, c1, rfl, _⟩ := hs1
       obtain ⟨x0, x1, x2, x3⟩ := hx1)
    | (go_at_call 50; refine (nmT _).mono ?_; rintro e w3 ⟨rfl, hb3⟩
       have hX3 := hX1.next hb3
       clear x0 x1 x2 x3
       obtain ⟨x0, x1, x2, x3⟩ := hX3.cells))
  go_ret
  exact ⟨congrArg (fun b => Ending.returned (Value.bool b)) HX.out.symm, hX3.out⟩
set_option maxRecDepth 20000 in
set_option maxHeartbeats 4000000 in
theorem isF_tx11 (n : Nat) (k : Int) (x : List UInt8) (m : Int) (ks : List Tr) (ao : Option Addr) (c : Nat) (s : Int) (w : World) (_hxm : (⟨x.toArray⟩ : ByteArray).size ≤ maxLen)
    (xs : List Int) (rest tx : Int) (hr : rest ≠ 0) (h1 : xs.length ≤ ks.length) (hm : m ≠ 0) (hk2 : numK k = true) (ht : tx = 0) (hx : x ≠ []) (HX : Hid (isP (n + 1) (.mk k x m ks) s = false))
    (cSh : ∀ W, Below w.heap.size w W → Calls Tryz.prog 48 #[.agg #[.int .i64 k, .string ⟨x.toArray⟩, .int .i64 m, .slice ao ks.length c], .int .i64 s] W (OutH W (xs, rest, tx, true))) :
    Calls Tryz.prog 28 #[.agg #[.int .i64 k, .string ⟨x.toArray⟩, .int .i64 m, .slice ao ks.length c], .int .i64 s] w fun e w' => e = .returned (.bool (isP (n + 1) (.mk k x m ks) s)) ∧ Below w.heap.size w w' := by
  have hX0 := Hx.start (w := w) (c0 := .int .i64 k) (c1 := .string ⟨x.toArray⟩) (c2 := .int .i64 m) (c3 := .slice ao ks.length c)
  have r0 : (rest == 0) = false := beq_false_of_ne hr
  have d1 : decide (ks.length < xs.length) = false := decide_eq_false (by omega)
  clear hr
  have m0 : (m != 0) = true := by simp [hm]
  subst ht
  have ex : (x == []) = false := by simpa using hx
  have nkT : ∀ W : World, Calls Tryz.prog 49 #[.int .i64 k] W fun e w' => e = .returned (.bool true) ∧ w' = W := fun W => by have h := numK_any k W; rw [hk2] at h; exact h
  go_enter Tryz.func28, Tryz.ntmps28
  go_wp2_with (first
    | (go_at_call 48; refine (cSh _ hX0.out).mono ?_; rintro e w1 ⟨sl1, rfl, hs1, hb1⟩
       have hX1 := hX0.next hb1
       have hx1 := hX1.cells
       obtain ⟨ao1, c1, rfl, _⟩ := hs1
       obtain ⟨x0, x1, x2, x3⟩ := hx1)
    | (go_at_call 49; refine (nkT _).mono ?_; rintro e w2 ⟨rfl, hw2⟩; obtain rfl := hw2.symm))
  go_ret
  exact ⟨congrArg (fun b => Ending.returned (Value.bool b)) HX.out.symm, hX1.out⟩
set_option maxRecDepth 20000 in
set_option maxHeartbeats 4000000 in
theorem isF_nm11 (n : Nat) (k : Int) (x : List UInt8) (m : Int) (ks : List Tr) (ao : Option Addr) (c : Nat) (s : Int) (w : World) (hxm : (⟨x.toArray⟩ : ByteArray).size ≤ maxLen)
    (xs : List Int) (rest tx : Int) (hr : rest ≠ 0) (h1 : xs.length ≤ ks.length) (hm : m ≠ 0) (hk2 : numK k = true) (ht : tx = 1) (hx : nameP x = false) (HX : Hid (isP (n + 1) (.mk k x m ks) s = false))
    (cSh : ∀ W, Below w.heap.size w W → Calls Tryz.prog 48 #[.agg #[.int .i64 k, .string ⟨x.toArray⟩, .int .i64 m, .slice ao ks.length c], .int .i64 s] W (OutH W (xs, rest, tx, true))) :
    Calls Tryz.prog 28 #[.agg #[.int .i64 k, .string ⟨x.toArray⟩, .int .i64 m, .slice ao ks.length c], .int .i64 s] w fun e w' => e = .returned (.bool (isP (n + 1) (.mk k x m ks) s)) ∧ Below w.heap.size w w' := by
  have hX0 := Hx.start (w := w) (c0 := .int .i64 k) (c1 := .string ⟨x.toArray⟩) (c2 := .int .i64 m) (c3 := .slice ao ks.length c)
  have r0 : (rest == 0) = false := beq_false_of_ne hr
  have d1 : decide (ks.length < xs.length) = false := decide_eq_false (by omega)
  clear hr
  have m0 : (m != 0) = true := by simp [hm]
  subst ht
  have nkT : ∀ W : World, Calls Tryz.prog 49 #[.int .i64 k] W fun e w' => e = .returned (.bool true) ∧ w' = W := fun W => by have h := numK_any k W; rw [hk2] at h; exact h
  have nmT : ∀ W : World, Calls Tryz.prog 50 #[.string ⟨x.toArray⟩] W fun e w' => e = .returned (.bool false) ∧ Below W.heap.size W w' := fun W => by have h := nmR_any ⟨x.toArray⟩ hxm W; rw [show nameP (⟨x.toArray⟩ : ByteArray).data.toList = false from hx] at h; exact h
  go_enter Tryz.func28, Tryz.ntmps28
  go_wp2_with (first
    | (go_at_call 48; refine (cSh _ hX0.out).mono ?_; rintro e w1 ⟨sl1, rfl, hs1, hb1⟩
       have hX1 := hX0.next hb1
       have hx1 := hX1.cells
       obtain ⟨ao1, c1, rfl, _⟩ := hs1
       obtain ⟨x0, x1, x2, x3⟩ := hx1)
    | (go_at_call 49; refine (nkT _).mono ?_; rintro e w2 ⟨rfl, hw2⟩; obtain rfl := hw2.symm)
    | (go_at_call 50; refine (nmT _).mono ?_; rintro e w3 ⟨rfl, hb3⟩
       have hX3 := hX1.next hb3
       clear x0 x1 x2 x3
       obtain ⟨x0, x1, x2, x3⟩ := hX3.cells))
  go_ret
  exact ⟨congrArg (fun b => Ending.returned (Value.bool b)) HX.out.symm, hX3.out⟩
end Go.Proofs.YtnkphlkjhgngkaaGreatDoor
