/- The document's table of expressions. -/
import Derived.Test.YtnkphlkjhgngkaaGreatDoorRfCJo
import Derived.Test.YtnkphlkjhgngkaaGreatDoorLawCJo
namespace Go.Proofs.YtnkphlkjhgngkaaGreatDoor
open Go.RowKit
attribute [local go_sem ↓] Go.wp_at_zero Go.wp_at_succ

/-- A slice of sorts, in blocks from B on. -/
def Srt (B : Nat) (w : World) (xs : List Int) (sl : Value) : Prop :=
  ∃ ao c, sl = .slice ao xs.length c ∧ ∀ (j : Nat) x, xs[j]? = some x → ∃ g o, ao = some ⟨g, o, none⟩ ∧ B ≤ g ∧ w.cell? ⟨g, o + j, none⟩ = some (.int .i64 x)
/-- What a call that tells sorts comes to. -/
def OutH (w : World) (sh : Sh) (e : Ending) (w' : World) : Prop :=
  ∃ sl, e = .returned (.tuple #[sl, .int .i64 sh.2.1, .int .i64 sh.2.2.1, .bool sh.2.2.2]) ∧ Srt w.heap.size w' sh.1 sl ∧ Below w.heap.size w w'
theorem srt_nil (B : Nat) (w : World) : Srt B w [] (.slice none 0 0) := ⟨none, 0, rfl, fun j x h => by simp at h⟩
theorem srt_lit {B : Nat} {w : World} (hB : B ≤ w.heap.size) (xs : List Int) {c : Nat} : Srt B (w.alloc (.cells (xs.map fun x => Value.int .i64 x).toArray 3)) xs (.slice (some ⟨w.heap.size, 0, none⟩) xs.length c) := by
  refine ⟨_, _, rfl, fun j x h => ⟨_, _, rfl, hB, ?_⟩⟩
  rw [World.cell?_alloc_new]
  simp [h]
theorem Srt.drewN {B : Nat} {w : World} {xs : List Int} {sl : Value} (h : Srt B w xs sl) : Srt B w.drew xs sl := h
theorem outH {w w' : World} {xs : List Int} {rest tx : Int} {ok : Bool} {sl : Value} (sh : Sh) (h : sh = (xs, rest, tx, ok)) (hs : Srt w.heap.size w' xs sl) (hb : Below w.heap.size w w') :
    OutH w sh (.returned (.tuple #[sl, .int .i64 rest, .int .i64 tx, .bool ok])) w' := by subst h; exact ⟨sl, rfl, hs, hb⟩
theorem srt_box (w : World) (o : Obj) (xs : List Int) {n c : Nat} (hn : xs.length = n) : Srt w.heap.size ((w.alloc o).alloc (.cells (xs.map fun x => Value.int .i64 x).toArray 3)) xs (.slice (some ⟨w.heap.size + 1, 0, none⟩) n c) := by
  subst hn
  have h := srt_lit (B := w.heap.size) (w := w.alloc o) (by simp) xs (c := c)
  simpa using h
theorem below_drewN {B : Nat} {a w : World} (h : Below B a w) (q : Nat) : Below B a (w.drewN q) := ⟨h.os, h.tape, h.output, h.size, h.block⟩
theorem below_drew {B : Nat} {a w : World} (h : Below B a w) : Below B a w.drew := ⟨h.os, h.tape, h.output, h.size, h.block⟩
set_option maxRecDepth 20000 in
set_option maxHeartbeats 4000000 in
theorem ex_40 (x : List UInt8) (m : Int) (ks : List Tr) (ao : Option Addr) (c : Nat) (w : World) :
    Calls Tryz.prog 87 #[.agg #[.int .i64 40, .string ⟨x.toArray⟩, .int .i64 m, .slice ao ks.length c]] w (OutH w (shX (.mk 40 x m ks))) := by
  have hb := (Below.refl w.heap.size w).alloc (Nat.le_refl _) (.cells #[.int .i64 40, .string ⟨x.toArray⟩, .int .i64 m, .slice ao ks.length c] 24)
  have HX : Hid (shX (.mk 40 x m ks) = ([], 0, 0, decide (0 ≤ m))) := rfl
  go_enter Tryz.func87, Tryz.ntmps87
  go_wp2_with fail
  go_quiet (fail)
  go_wp2
  exact bodyPost_ret (v := .tuple #[.slice none 0 0, .int .i64 0, .int .i64 0, .bool (decide (0 ≤ m))]) (by simp [results, Tryz.results87, go_sem]) rfl (outH _ HX.out (srt_nil _ _) (below_drewN hb _))
set_option maxRecDepth 20000 in
set_option maxHeartbeats 4000000 in
theorem ex_41 (x : List UInt8) (m : Int) (ks : List Tr) (ao : Option Addr) (c : Nat) (w : World) :
    Calls Tryz.prog 87 #[.agg #[.int .i64 41, .string ⟨x.toArray⟩, .int .i64 m, .slice ao ks.length c]] w (OutH w (shX (.mk 41 x m ks))) := by
  have hb := (Below.refl w.heap.size w).alloc (Nat.le_refl _) (.cells #[.int .i64 41, .string ⟨x.toArray⟩, .int .i64 m, .slice ao ks.length c] 24)
  by_cases h1 : x.length ≤ 1024
  · have HX : Hid (shX (.mk 41 x m ks) = ([], 0, 2, true)) := Lib.hid (by show ([], 0, 2, decide (x.length ≤ 1024)) = _; rw [decide_eq_true h1])
    have hd : decide ((x.length : Int) ≤ 1024) = true := decide_eq_true (by omega)
    go_enter Tryz.func87, Tryz.ntmps87
    go_wp2_with fail
    go_quiet (fail)
    go_wp2
    exact bodyPost_ret (v := .tuple #[.slice none 0 0, .int .i64 0, .int .i64 2, .bool (true)]) (by simp [results, Tryz.results87, go_sem]) rfl (outH _ HX.out (srt_nil _ _) (below_drewN hb _))
  · have HX : Hid (shX (.mk 41 x m ks) = ([], 0, 2, false)) := Lib.hid (by show ([], 0, 2, decide (x.length ≤ 1024)) = _; rw [decide_eq_false h1])
    have hd : decide ((x.length : Int) ≤ 1024) = false := decide_eq_false (by omega)
    go_enter Tryz.func87, Tryz.ntmps87
    go_wp2_with fail
    go_quiet (fail)
    go_wp2
    exact bodyPost_ret (v := .tuple #[.slice none 0 0, .int .i64 0, .int .i64 2, .bool (false)]) (by simp [results, Tryz.results87, go_sem]) rfl (outH _ HX.out (srt_nil _ _) (below_drewN hb _))
set_option maxRecDepth 20000 in
set_option maxHeartbeats 4000000 in
theorem ex_42 (x : List UInt8) (m : Int) (ks : List Tr) (ao : Option Addr) (c : Nat) (w : World) :
    Calls Tryz.prog 87 #[.agg #[.int .i64 42, .string ⟨x.toArray⟩, .int .i64 m, .slice ao ks.length c]] w (OutH w (shX (.mk 42 x m ks))) := by
  have hb := (Below.refl w.heap.size w).alloc (Nat.le_refl _) (.cells #[.int .i64 42, .string ⟨x.toArray⟩, .int .i64 m, .slice ao ks.length c] 24)
  by_cases h1 : m = 0
  · subst h1
    have HX : Hid (shX (.mk 42 x 0 ks) = ([], 0, 0, true)) := rfl
    go_enter Tryz.func87, Tryz.ntmps87
    go_wp2_with fail
    go_quiet (fail)
    go_wp2
    exact bodyPost_ret (v := .tuple #[.slice none 0 0, .int .i64 0, .int .i64 0, .bool (true)]) (by simp [results, Tryz.results87, go_sem]) rfl (outH _ HX.out (srt_nil _ _) (below_drewN hb _))
  · have e0 : (m == 0) = false := by simpa using h1
    have HX : Hid (shX (.mk 42 x m ks) = ([], 0, 0, m == 1)) := Lib.hid (by show ([], 0, 0, m == 0 || m == 1) = _; rw [e0]; rfl)
    clear h1
    go_enter Tryz.func87, Tryz.ntmps87
    go_wp2_with fail
    go_quiet (fail)
    go_wp2
    exact bodyPost_ret (v := .tuple #[.slice none 0 0, .int .i64 0, .int .i64 0, .bool (m == 1)]) (by simp [results, Tryz.results87, go_sem]) rfl (outH _ HX.out (srt_nil _ _) (below_drewN hb _))
set_option maxRecDepth 20000 in
set_option maxHeartbeats 4000000 in
theorem ex_43 (x : List UInt8) (m : Int) (ks : List Tr) (ao : Option Addr) (c : Nat) (w : World) :
    Calls Tryz.prog 87 #[.agg #[.int .i64 43, .string ⟨x.toArray⟩, .int .i64 m, .slice ao ks.length c]] w (OutH w (shX (.mk 43 x m ks))) := by
  have hb := (Below.refl w.heap.size w).alloc (Nat.le_refl _) (.cells #[.int .i64 43, .string ⟨x.toArray⟩, .int .i64 m, .slice ao ks.length c] 24)
  have HX : Hid (shX (.mk 43 x m ks) = ([], 0, 0, true)) := rfl
  go_enter Tryz.func87, Tryz.ntmps87
  go_wp2
  exact bodyPost_ret (v := .tuple #[.slice none 0 0, .int .i64 0, .int .i64 0, .bool (true)]) (by simp [results, Tryz.results87, go_sem]) rfl (outH _ HX.out (srt_nil _ _) (hb))
set_option maxRecDepth 20000 in
set_option maxHeartbeats 4000000 in
theorem ex_44 (x : List UInt8) (m : Int) (ks : List Tr) (ao : Option Addr) (c : Nat) (w : World) :
    Calls Tryz.prog 87 #[.agg #[.int .i64 44, .string ⟨x.toArray⟩, .int .i64 m, .slice ao ks.length c]] w (OutH w (shX (.mk 44 x m ks))) := by
  have hb := (Below.refl w.heap.size w).alloc (Nat.le_refl _) (.cells #[.int .i64 44, .string ⟨x.toArray⟩, .int .i64 m, .slice ao ks.length c] 24)
  have HX : Hid (shX (.mk 44 x m ks) = ([], 0, 1, true)) := rfl
  go_enter Tryz.func87, Tryz.ntmps87
  go_wp2
  exact bodyPost_ret (v := .tuple #[.slice none 0 0, .int .i64 0, .int .i64 1, .bool (true)]) (by simp [results, Tryz.results87, go_sem]) rfl (outH _ HX.out (srt_nil _ _) (hb))
set_option maxRecDepth 20000 in
set_option maxHeartbeats 4000000 in
theorem ex_45 (x : List UInt8) (m : Int) (ks : List Tr) (ao : Option Addr) (c : Nat) (w : World) :
    Calls Tryz.prog 87 #[.agg #[.int .i64 45, .string ⟨x.toArray⟩, .int .i64 m, .slice ao ks.length c]] w (OutH w (shX (.mk 45 x m ks))) := by
  have hb := (Below.refl w.heap.size w).alloc (Nat.le_refl _) (.cells #[.int .i64 45, .string ⟨x.toArray⟩, .int .i64 m, .slice ao ks.length c] 24)
  have HX : Hid (shX (.mk 45 x m ks) = ([], 7, 1, true)) := rfl
  go_enter Tryz.func87, Tryz.ntmps87
  go_wp2
  exact bodyPost_ret (v := .tuple #[.slice none 0 0, .int .i64 7, .int .i64 1, .bool (true)]) (by simp [results, Tryz.results87, go_sem]) rfl (outH _ HX.out (srt_nil _ _) (hb))
set_option maxRecDepth 20000 in
set_option maxHeartbeats 4000000 in
theorem ex_46 (x : List UInt8) (m : Int) (ks : List Tr) (ao : Option Addr) (c : Nat) (w : World) :
    Calls Tryz.prog 87 #[.agg #[.int .i64 46, .string ⟨x.toArray⟩, .int .i64 m, .slice ao ks.length c]] w (OutH w (shX (.mk 46 x m ks))) := by
  have hb := (Below.refl w.heap.size w).alloc (Nat.le_refl _) (.cells #[.int .i64 46, .string ⟨x.toArray⟩, .int .i64 m, .slice ao ks.length c] 24)
  have HX : Hid (shX (.mk 46 x m ks) = ([2], 7, 0, true)) := rfl
  go_enter Tryz.func87, Tryz.ntmps87
  go_wp2
  exact bodyPost_ret (v := .tuple #[.slice (some ⟨w.heap.size + 1, 0, none⟩) 1 1, .int .i64 7, .int .i64 0, .bool (true)]) (by simp [results, Tryz.results87, go_sem]) rfl (outH _ HX.out (srt_box w _ [2] rfl) ((hb.alloc hb.size _)))
set_option maxRecDepth 20000 in
set_option maxHeartbeats 4000000 in
theorem ex_47 (x : List UInt8) (m : Int) (ks : List Tr) (ao : Option Addr) (c : Nat) (w : World) :
    Calls Tryz.prog 87 #[.agg #[.int .i64 47, .string ⟨x.toArray⟩, .int .i64 m, .slice ao ks.length c]] w (OutH w (shX (.mk 47 x m ks))) := by
  have hb := (Below.refl w.heap.size w).alloc (Nat.le_refl _) (.cells #[.int .i64 47, .string ⟨x.toArray⟩, .int .i64 m, .slice ao ks.length c] 24)
  have HX : Hid (shX (.mk 47 x m ks) = ([3, 5], 0, 0, true)) := rfl
  go_enter Tryz.func87, Tryz.ntmps87
  go_wp2
  exact bodyPost_ret (v := .tuple #[.slice (some ⟨w.heap.size + 1, 0, none⟩) 2 2, .int .i64 0, .int .i64 0, .bool (true)]) (by simp [results, Tryz.results87, go_sem]) rfl (outH _ HX.out (srt_box w _ [3, 5] rfl) ((hb.alloc hb.size _)))
set_option maxRecDepth 20000 in
set_option maxHeartbeats 4000000 in
theorem ex_48 (x : List UInt8) (m : Int) (ks : List Tr) (ao : Option Addr) (c : Nat) (w : World) :
    Calls Tryz.prog 87 #[.agg #[.int .i64 48, .string ⟨x.toArray⟩, .int .i64 m, .slice ao ks.length c]] w (OutH w (shX (.mk 48 x m ks))) := by
  have hb := (Below.refl w.heap.size w).alloc (Nat.le_refl _) (.cells #[.int .i64 48, .string ⟨x.toArray⟩, .int .i64 m, .slice ao ks.length c] 24)
  have HX : Hid (shX (.mk 48 x m ks) = ([7], 0, 1, true)) := rfl
  go_enter Tryz.func87, Tryz.ntmps87
  go_wp2
  exact bodyPost_ret (v := .tuple #[.slice (some ⟨w.heap.size + 1, 0, none⟩) 1 1, .int .i64 0, .int .i64 1, .bool (true)]) (by simp [results, Tryz.results87, go_sem]) rfl (outH _ HX.out (srt_box w _ [7] rfl) ((hb.alloc hb.size _)))
set_option maxRecDepth 20000 in
set_option maxHeartbeats 4000000 in
theorem ex_49 (x : List UInt8) (m : Int) (ks : List Tr) (ao : Option Addr) (c : Nat) (w : World) :
    Calls Tryz.prog 87 #[.agg #[.int .i64 49, .string ⟨x.toArray⟩, .int .i64 m, .slice ao ks.length c]] w (OutH w (shX (.mk 49 x m ks))) := by
  have hb := (Below.refl w.heap.size w).alloc (Nat.le_refl _) (.cells #[.int .i64 49, .string ⟨x.toArray⟩, .int .i64 m, .slice ao ks.length c] 24)
  have HX : Hid (shX (.mk 49 x m ks) = ([7, 7], 0, 0, true)) := rfl
  go_enter Tryz.func87, Tryz.ntmps87
  go_wp2
  exact bodyPost_ret (v := .tuple #[.slice (some ⟨w.heap.size + 1, 0, none⟩) 2 2, .int .i64 0, .int .i64 0, .bool (true)]) (by simp [results, Tryz.results87, go_sem]) rfl (outH _ HX.out (srt_box w _ [7, 7] rfl) ((hb.alloc hb.size _)))
set_option maxRecDepth 20000 in
set_option maxHeartbeats 4000000 in
theorem ex_50 (x : List UInt8) (m : Int) (ks : List Tr) (ao : Option Addr) (c : Nat) (w : World) :
    Calls Tryz.prog 87 #[.agg #[.int .i64 50, .string ⟨x.toArray⟩, .int .i64 m, .slice ao ks.length c]] w (OutH w (shX (.mk 50 x m ks))) := by
  have hb := (Below.refl w.heap.size w).alloc (Nat.le_refl _) (.cells #[.int .i64 50, .string ⟨x.toArray⟩, .int .i64 m, .slice ao ks.length c] 24)
  by_cases h0 : m = 0
  · subst h0
    have HX : Hid (shX (.mk 50 x 0 ks) = ([7], 0, 0, true)) := rfl
    go_enter Tryz.func87, Tryz.ntmps87
    go_wp2
    exact bodyPost_ret (v := .tuple #[.slice (some ⟨w.heap.size + 1, 0, none⟩) 1 1, .int .i64 0, .int .i64 0, .bool (true)]) (by simp [results, Tryz.results87, go_sem]) rfl (outH _ HX.out (srt_box w _ [7] rfl) ((hb.alloc hb.size _)))
  by_cases h1 : m = 1
  · subst h1
    have HX : Hid (shX (.mk 50 x 1 ks) = ([7, 7], 0, 0, true)) := rfl
    go_enter Tryz.func87, Tryz.ntmps87
    go_wp2
    exact bodyPost_ret (v := .tuple #[.slice (some ⟨w.heap.size + 1, 0, none⟩) 2 2, .int .i64 0, .int .i64 0, .bool (true)]) (by simp [results, Tryz.results87, go_sem]) rfl (outH _ HX.out (srt_box w _ [7, 7] rfl) ((hb.alloc hb.size _)))
  by_cases h2 : m = 2
  · subst h2
    have HX : Hid (shX (.mk 50 x 2 ks) = ([7, 7], 0, 0, true)) := rfl
    go_enter Tryz.func87, Tryz.ntmps87
    go_wp2
    exact bodyPost_ret (v := .tuple #[.slice (some ⟨w.heap.size + 1, 0, none⟩) 2 2, .int .i64 0, .int .i64 0, .bool (true)]) (by simp [results, Tryz.results87, go_sem]) rfl (outH _ HX.out (srt_box w _ [7, 7] rfl) ((hb.alloc hb.size _)))
  by_cases h3 : m = 3
  · subst h3
    have HX : Hid (shX (.mk 50 x 3 ks) = ([7, 7, 7], 0, 0, true)) := rfl
    go_enter Tryz.func87, Tryz.ntmps87
    go_wp2
    exact bodyPost_ret (v := .tuple #[.slice (some ⟨w.heap.size + 1, 0, none⟩) 3 3, .int .i64 0, .int .i64 0, .bool (true)]) (by simp [results, Tryz.results87, go_sem]) rfl (outH _ HX.out (srt_box w _ [7, 7, 7] rfl) ((hb.alloc hb.size _)))
  have HX : Hid (shX (.mk 50 x m ks) = ([], 0, 0, false)) := Lib.hid (by simp [shX, Tr.kind, Tr.num, h0, h1, h2, h3])
  have e0 : (m == 0) = false := by simpa using h0
  have e1 : (m == 1) = false := by simpa using h1
  have e2 : (m == 2) = false := by simpa using h2
  have e3 : (m == 3) = false := by simpa using h3
  clear h0 h1 h2 h3
  go_enter Tryz.func87, Tryz.ntmps87
  go_wp2
  exact bodyPost_ret (v := .tuple #[.slice none 0 0, .int .i64 0, .int .i64 0, .bool (false)]) (by simp [results, Tryz.results87, go_sem]) rfl (outH _ HX.out (srt_nil _ _) (hb))
set_option maxRecDepth 20000 in
set_option maxHeartbeats 4000000 in
theorem ex_51 (x : List UInt8) (m : Int) (ks : List Tr) (ao : Option Addr) (c : Nat) (w : World) :
    Calls Tryz.prog 87 #[.agg #[.int .i64 51, .string ⟨x.toArray⟩, .int .i64 m, .slice ao ks.length c]] w (OutH w (shX (.mk 51 x m ks))) := by
  have hb := (Below.refl w.heap.size w).alloc (Nat.le_refl _) (.cells #[.int .i64 51, .string ⟨x.toArray⟩, .int .i64 m, .slice ao ks.length c] 24)
  have HX : Hid (shX (.mk 51 x m ks) = ([7], 7, 0, true)) := rfl
  go_enter Tryz.func87, Tryz.ntmps87
  go_wp2
  exact bodyPost_ret (v := .tuple #[.slice (some ⟨w.heap.size + 1, 0, none⟩) 1 1, .int .i64 7, .int .i64 0, .bool (true)]) (by simp [results, Tryz.results87, go_sem]) rfl (outH _ HX.out (srt_box w _ [7] rfl) ((hb.alloc hb.size _)))
set_option maxRecDepth 20000 in
set_option maxHeartbeats 4000000 in
theorem ex_52 (x : List UInt8) (m : Int) (ks : List Tr) (ao : Option Addr) (c : Nat) (w : World) :
    Calls Tryz.prog 87 #[.agg #[.int .i64 52, .string ⟨x.toArray⟩, .int .i64 m, .slice ao ks.length c]] w (OutH w (shX (.mk 52 x m ks))) := by
  have hb := (Below.refl w.heap.size w).alloc (Nat.le_refl _) (.cells #[.int .i64 52, .string ⟨x.toArray⟩, .int .i64 m, .slice ao ks.length c] 24)
  by_cases h45 : x = [45]
  · subst h45
    have HX : Hid (shX (.mk 52 [45] m ks) = ([7], 0, 2, true)) := rfl
    go_enter Tryz.func87, Tryz.ntmps87
    go_wp2_with fail
    go_region
    all_goals
      go_wp2
      exact bodyPost_ret (v := .tuple #[.slice (some ⟨w.heap.size + 1, 0, none⟩) 1 1, .int .i64 0, .int .i64 2, .bool (true)]) (by simp [results, Tryz.results87, go_sem]) rfl (outH _ HX.out (srt_box w _ [7] rfl) (below_drew (hb.alloc hb.size _)))
  by_cases h33 : x = [33]
  · subst h33
    have HX : Hid (shX (.mk 52 [33] m ks) = ([7], 0, 2, true)) := rfl
    go_enter Tryz.func87, Tryz.ntmps87
    go_wp2_with fail
    go_region
    all_goals
      go_wp2
      exact bodyPost_ret (v := .tuple #[.slice (some ⟨w.heap.size + 1, 0, none⟩) 1 1, .int .i64 0, .int .i64 2, .bool (true)]) (by simp [results, Tryz.results87, go_sem]) rfl (outH _ HX.out (srt_box w _ [7] rfl) (below_drew (hb.alloc hb.size _)))
  by_cases h38 : x = [38]
  · subst h38
    have HX : Hid (shX (.mk 52 [38] m ks) = ([7], 0, 2, true)) := rfl
    go_enter Tryz.func87, Tryz.ntmps87
    go_wp2_with fail
    go_region
    all_goals
      go_wp2
      exact bodyPost_ret (v := .tuple #[.slice (some ⟨w.heap.size + 1, 0, none⟩) 1 1, .int .i64 0, .int .i64 2, .bool (true)]) (by simp [results, Tryz.results87, go_sem]) rfl (outH _ HX.out (srt_box w _ [7] rfl) (below_drew (hb.alloc hb.size _)))
  by_cases h42 : x = [42]
  · subst h42
    have HX : Hid (shX (.mk 52 [42] m ks) = ([7], 0, 2, true)) := rfl
    go_enter Tryz.func87, Tryz.ntmps87
    go_wp2_with fail
    go_region
    all_goals
      go_wp2
      exact bodyPost_ret (v := .tuple #[.slice (some ⟨w.heap.size + 1, 0, none⟩) 1 1, .int .i64 0, .int .i64 2, .bool (true)]) (by simp [results, Tryz.results87, go_sem]) rfl (outH _ HX.out (srt_box w _ [7] rfl) (below_drew (hb.alloc hb.size _)))
  have HX : Hid (shX (.mk 52 x m ks) = ([7], 0, 2, false)) := Lib.hid (by show ([7], 0, 2, prefixL x) = _; simp [prefixL, h45, h33, h38, h42])
  have e45 : (x == [45]) = false := by simpa using h45
  have e33 : (x == [33]) = false := by simpa using h33
  have e38 : (x == [38]) = false := by simpa using h38
  have e42 : (x == [42]) = false := by simpa using h42
  clear h45 h33 h38 h42
  go_enter Tryz.func87, Tryz.ntmps87
  go_wp2_with fail
  go_region
  all_goals
    go_wp2
    exact bodyPost_ret (v := .tuple #[.slice (some ⟨w.heap.size + 1, 0, none⟩) 1 1, .int .i64 0, .int .i64 2, .bool (false)]) (by simp [results, Tryz.results87, go_sem]) rfl (outH _ HX.out (srt_box w _ [7] rfl) (below_drew (hb.alloc hb.size _)))
set_option maxRecDepth 20000 in
set_option maxHeartbeats 4000000 in
theorem ex_53 (x : List UInt8) (m : Int) (ks : List Tr) (ao : Option Addr) (c : Nat) (w : World) :
    Calls Tryz.prog 87 #[.agg #[.int .i64 53, .string ⟨x.toArray⟩, .int .i64 m, .slice ao ks.length c]] w (OutH w (shX (.mk 53 x m ks))) := by
  have hb := (Below.refl w.heap.size w).alloc (Nat.le_refl _) (.cells #[.int .i64 53, .string ⟨x.toArray⟩, .int .i64 m, .slice ao ks.length c] 24)
  have HX : Hid (shX (.mk 53 x m ks) = ([7, 7], 0, 2, decide (0 < rankL x))) := rfl
  go_enter Tryz.func87, Tryz.ntmps87
  go_wp2_with (go_at_call 16; refine (level_any x _).mono ?_; rintro e w1 ⟨rfl, rfl⟩)
  go_wp2
  exact bodyPost_ret (v := .tuple #[.slice (some ⟨w.heap.size + 1, 0, none⟩) 2 2, .int .i64 0, .int .i64 2, .bool (decide (0 < rankL x))]) (by simp [results, Tryz.results87, go_sem]) rfl (outH _ HX.out (srt_box w _ [7, 7] rfl) ((hb.alloc hb.size _)))
set_option maxRecDepth 20000 in
set_option maxHeartbeats 4000000 in
theorem exprT_any (k : Int) (x : List UInt8) (m : Int) (ks : List Tr) (ao : Option Addr) (c : Nat) (w : World) :
    Calls Tryz.prog 87 #[.agg #[.int .i64 k, .string ⟨x.toArray⟩, .int .i64 m, .slice ao ks.length c]] w (OutH w (shX (.mk k x m ks))) := by
  by_cases h40 : k = 40
  · subst h40; exact ex_40 x m ks ao c w
  by_cases h41 : k = 41
  · subst h41; exact ex_41 x m ks ao c w
  by_cases h42 : k = 42
  · subst h42; exact ex_42 x m ks ao c w
  by_cases h43 : k = 43
  · subst h43; exact ex_43 x m ks ao c w
  by_cases h44 : k = 44
  · subst h44; exact ex_44 x m ks ao c w
  by_cases h45 : k = 45
  · subst h45; exact ex_45 x m ks ao c w
  by_cases h46 : k = 46
  · subst h46; exact ex_46 x m ks ao c w
  by_cases h47 : k = 47
  · subst h47; exact ex_47 x m ks ao c w
  by_cases h48 : k = 48
  · subst h48; exact ex_48 x m ks ao c w
  by_cases h49 : k = 49
  · subst h49; exact ex_49 x m ks ao c w
  by_cases h50 : k = 50
  · subst h50; exact ex_50 x m ks ao c w
  by_cases h51 : k = 51
  · subst h51; exact ex_51 x m ks ao c w
  by_cases h52 : k = 52
  · subst h52; exact ex_52 x m ks ao c w
  by_cases h53 : k = 53
  · subst h53; exact ex_53 x m ks ao c w
  have HX : Hid (shX (.mk k x m ks) = ([], 0, 0, false)) := Lib.hid (by simp [shX, Tr.kind, h40, h41, h42, h43, h44, h45, h46, h47, h48, h49, h50, h51, h52, h53])
  have e40 : (k == 40) = false := by simpa using h40
  have e41 : (k == 41) = false := by simpa using h41
  have e42 : (k == 42) = false := by simpa using h42
  have e43 : (k == 43) = false := by simpa using h43
  have e44 : (k == 44) = false := by simpa using h44
  have e45 : (k == 45) = false := by simpa using h45
  have e46 : (k == 46) = false := by simpa using h46
  have e47 : (k == 47) = false := by simpa using h47
  have e48 : (k == 48) = false := by simpa using h48
  have e49 : (k == 49) = false := by simpa using h49
  have e50 : (k == 50) = false := by simpa using h50
  have e51 : (k == 51) = false := by simpa using h51
  have e52 : (k == 52) = false := by simpa using h52
  have e53 : (k == 53) = false := by simpa using h53
  clear h40 h41 h42 h43 h44 h45 h46 h47 h48 h49 h50 h51 h52 h53
  have hb := (Below.refl w.heap.size w).alloc (Nat.le_refl _) (.cells #[.int .i64 k, .string ⟨x.toArray⟩, .int .i64 m, .slice ao ks.length c] 24)
  go_enter Tryz.func87, Tryz.ntmps87
  go_wp2
  exact bodyPost_ret (v := .tuple #[.slice none 0 0, .int .i64 0, .int .i64 0, .bool (false)]) (by simp [results, Tryz.results87, go_sem]) rfl (outH _ HX.out (srt_nil _ _) (hb))
end Go.Proofs.YtnkphlkjhgngkaaGreatDoor
