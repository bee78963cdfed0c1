/- The document's table of statements. -/
import Derived.Test.YtnkphlkjhgngkaaGreatDoorRfDJo
namespace Go.Proofs.YtnkphlkjhgngkaaGreatDoor
open Go.RowKit
attribute [local go_sem ↓] Go.wp_at_zero Go.wp_at_succ

theorem Hx.szd {w W : World} {c0 c1 c2 c3 : Value} (h : Hx w c0 c1 c2 c3 W) : w.heap.size ≤ W.heap.size := by have := h.size; omega
theorem srt_own {B B' : Nat} {w : World} {xs : List Int} {ao : Option Addr} {n c : Nat} (hB : B ≤ B') (h : w.ownsRow B' 3 1 (.slice ao n c) n (intCells xs)) : Srt B w xs (.slice ao n c) := by
  obtain ⟨hl, h⟩ := h
  have hn : n = xs.length := by simpa [intCells] using hl.symm
  subst hn
  refine ⟨ao, c, rfl, fun j x hj => ?_⟩
  have hlt : j < xs.length := (List.getElem?_eq_some_iff.1 hj).1
  rcases h with ⟨_, h0⟩ | ⟨g, cap, cur, e, hg, hc, h1, h2, h3, h4⟩
  · omega
  · injection e with e1 _ e3
    subst e1 e3
    refine ⟨g, 0, rfl, Nat.le_trans hB hg, ?_⟩
    have hx : cur.toList[j]? = some (.int .i64 x) := by
      have : (cur.toList.take (xs.length * 1))[j]? = some (.int .i64 x) := by rw [h4]; simp [intCells, hj]
      rwa [List.getElem?_take_of_lt (by omega)] at this
    simp [World.cell?, hc]
    simpa using hx
set_option maxRecDepth 20000 in
set_option maxHeartbeats 4000000 in
theorem st_20 (x : List UInt8) (m : Int) (ks : List Tr) (ao : Option Addr) (c : Nat) (w : World) :
    Calls Tryz.prog 86 #[.agg #[.int .i64 20, .string ⟨x.toArray⟩, .int .i64 m, .slice ao ks.length c]] w (OutH w (shS (.mk 20 x m ks))) := by
  have hb := (Below.refl w.heap.size w).alloc (Nat.le_refl _) (.cells #[.int .i64 20, .string ⟨x.toArray⟩, .int .i64 m, .slice ao ks.length c] 24)
  have HX : Hid (shS (.mk 20 x m ks) = ([], 6, 0, true)) := rfl
  go_enter Tryz.func86, Tryz.ntmps86
  go_wp2
  exact bodyPost_ret (v := .tuple #[.slice none 0 0, .int .i64 6, .int .i64 0, .bool (true)]) (by simp [results, Tryz.results86, go_sem]) rfl (outH _ HX.out (srt_nil _ _) (hb))
set_option maxRecDepth 20000 in
set_option maxHeartbeats 4000000 in
theorem st_21 (x : List UInt8) (m : Int) (ks : List Tr) (ao : Option Addr) (c : Nat) (w : World) :
    Calls Tryz.prog 86 #[.agg #[.int .i64 21, .string ⟨x.toArray⟩, .int .i64 m, .slice ao ks.length c]] w (OutH w (shS (.mk 21 x m ks))) := by
  have hb := (Below.refl w.heap.size w).alloc (Nat.le_refl _) (.cells #[.int .i64 21, .string ⟨x.toArray⟩, .int .i64 m, .slice ao ks.length c] 24)
  by_cases h1 : ks.length = 1
  · have HX : Hid (shS (.mk 21 x m ks) = ([2], 0, 1, true)) := Lib.hid (by simp [shS, Tr.kind, Tr.kids, h1])
    have hd : ((ks.length : Int) == 1) = true := by simp [h1]
    clear h1
    go_enter Tryz.func86, Tryz.ntmps86
    go_wp2
    exact bodyPost_ret (v := .tuple #[.slice (some ⟨w.heap.size + 1, 0, none⟩) 1 1, .int .i64 0, .int .i64 1, .bool (true)]) (by simp [results, Tryz.results86, go_sem]) rfl (outH _ HX.out (srt_box w _ [2] rfl) ((hb.alloc hb.size _)))
  · have HX : Hid (shS (.mk 21 x m ks) = ([2, 7], 0, 1, true)) := Lib.hid (by simp [shS, Tr.kind, Tr.kids, h1])
    have hd : ((ks.length : Int) == 1) = false := by simp; omega
    clear h1
    go_enter Tryz.func86, Tryz.ntmps86
    go_wp2
    exact bodyPost_ret (v := .tuple #[.slice (some ⟨w.heap.size + 1, 0, none⟩) 2 2, .int .i64 0, .int .i64 1, .bool (true)]) (by simp [results, Tryz.results86, go_sem]) rfl (outH _ HX.out (srt_box w _ [2, 7] rfl) ((hb.alloc hb.size _)))
set_option maxRecDepth 20000 in
set_option maxHeartbeats 4000000 in
theorem st_22 (x : List UInt8) (m : Int) (ks : List Tr) (ao : Option Addr) (c : Nat) (w : World) :
    Calls Tryz.prog 86 #[.agg #[.int .i64 22, .string ⟨x.toArray⟩, .int .i64 m, .slice ao ks.length c]] w (OutH w (shS (.mk 22 x m ks))) := by
  have hb := (Below.refl w.heap.size w).alloc (Nat.le_refl _) (.cells #[.int .i64 22, .string ⟨x.toArray⟩, .int .i64 m, .slice ao ks.length c] 24)
  have hX0 := (Hx.start (w := w) (c0 := .int .i64 22) (c1 := .string ⟨x.toArray⟩) (c2 := .int .i64 m) (c3 := .slice ao ks.length c)).drew
  by_cases h1 : 1 ≤ m
  · have hd1 : decide (1 ≤ m) = true := decide_eq_true h1
    have HX : Hid (shS (.mk 22 x m ks) = (List.replicate (repN m) 11, 7, 0, decide (m < ks.length))) := Lib.hid (by show (_, _, _, decide (1 ≤ m) && decide (m < ks.length)) = _; rw [hd1]; rfl)
    clear h1
    go_enter Tryz.func86, Tryz.ntmps86
    go_wp2_with fail
    (first | go_region_with (first
      | (go_at_call 85; refine (repeat_any 11 m _).mono ?_; rintro e w1 ⟨ao1, c1, rfl, hO, hb1⟩
         have hX1 := hX0.next hb1
         obtain ⟨x0, x1, x2, x3⟩ := hX1.cells)) | fail)
    all_goals
      go_wp2
      exact bodyPost_ret (v := .tuple #[.slice ao1 (repN m) c1, .int .i64 7, .int .i64 0, .bool (decide (m < ks.length))]) (by simp [results, Tryz.results86, go_sem]) rfl (outH _ HX.out (srt_own hX0.szd hO) hX1.out)
  · have hd1 : decide (1 ≤ m) = false := decide_eq_false h1
    have HX : Hid (shS (.mk 22 x m ks) = (List.replicate (repN m) 11, 7, 0, false)) := Lib.hid (by show (_, _, _, decide (1 ≤ m) && decide (m < ks.length)) = _; rw [hd1]; rfl)
    clear h1
    go_enter Tryz.func86, Tryz.ntmps86
    go_wp2_with fail
    (first | go_region_with (first
      | (go_at_call 85; refine (repeat_any 11 m _).mono ?_; rintro e w1 ⟨ao1, c1, rfl, hO, hb1⟩
         have hX1 := hX0.next hb1
         obtain ⟨x0, x1, x2, x3⟩ := hX1.cells)) | fail)
    all_goals
      go_wp2
      exact bodyPost_ret (v := .tuple #[.slice ao1 (repN m) c1, .int .i64 7, .int .i64 0, .bool (false)]) (by simp [results, Tryz.results86, go_sem]) rfl (outH _ HX.out (srt_own hX0.szd hO) hX1.out)
set_option maxRecDepth 20000 in
set_option maxHeartbeats 4000000 in
theorem st_23 (x : List UInt8) (m : Int) (ks : List Tr) (ao : Option Addr) (c : Nat) (w : World) :
    Calls Tryz.prog 86 #[.agg #[.int .i64 23, .string ⟨x.toArray⟩, .int .i64 m, .slice ao ks.length c]] w (OutH w (shS (.mk 23 x m ks))) := by
  have hb := (Below.refl w.heap.size w).alloc (Nat.le_refl _) (.cells #[.int .i64 23, .string ⟨x.toArray⟩, .int .i64 m, .slice ao ks.length c] 24)
  have hX0 := (Hx.start (w := w) (c0 := .int .i64 23) (c1 := .string ⟨x.toArray⟩) (c2 := .int .i64 m) (c3 := .slice ao ks.length c)).drew
  by_cases h1 : 1 ≤ m
  · have hd1 : decide (1 ≤ m) = true := decide_eq_true h1
    have HX : Hid (shS (.mk 23 x m ks) = (List.replicate (repN m) 10, 7, 0, decide (m < ks.length))) := Lib.hid (by show (_, _, _, decide (1 ≤ m) && decide (m < ks.length)) = _; rw [hd1]; rfl)
    clear h1
    go_enter Tryz.func86, Tryz.ntmps86
    go_wp2_with fail
    (first | go_region_with (first
      | (go_at_call 85; refine (repeat_any 10 m _).mono ?_; rintro e w1 ⟨ao1, c1, rfl, hO, hb1⟩
         have hX1 := hX0.next hb1
         obtain ⟨x0, x1, x2, x3⟩ := hX1.cells)) | fail)
    all_goals
      go_wp2
      exact bodyPost_ret (v := .tuple #[.slice ao1 (repN m) c1, .int .i64 7, .int .i64 0, .bool (decide (m < ks.length))]) (by simp [results, Tryz.results86, go_sem]) rfl (outH _ HX.out (srt_own hX0.szd hO) hX1.out)
  · have hd1 : decide (1 ≤ m) = false := decide_eq_false h1
    have HX : Hid (shS (.mk 23 x m ks) = (List.replicate (repN m) 10, 7, 0, false)) := Lib.hid (by show (_, _, _, decide (1 ≤ m) && decide (m < ks.length)) = _; rw [hd1]; rfl)
    clear h1
    go_enter Tryz.func86, Tryz.ntmps86
    go_wp2_with fail
    (first | go_region_with (first
      | (go_at_call 85; refine (repeat_any 10 m _).mono ?_; rintro e w1 ⟨ao1, c1, rfl, hO, hb1⟩
         have hX1 := hX0.next hb1
         obtain ⟨x0, x1, x2, x3⟩ := hX1.cells)) | fail)
    all_goals
      go_wp2
      exact bodyPost_ret (v := .tuple #[.slice ao1 (repN m) c1, .int .i64 7, .int .i64 0, .bool (false)]) (by simp [results, Tryz.results86, go_sem]) rfl (outH _ HX.out (srt_own hX0.szd hO) hX1.out)
set_option maxRecDepth 20000 in
set_option maxHeartbeats 4000000 in
theorem st_24 (x : List UInt8) (m : Int) (ks : List Tr) (ao : Option Addr) (c : Nat) (w : World) :
    Calls Tryz.prog 86 #[.agg #[.int .i64 24, .string ⟨x.toArray⟩, .int .i64 m, .slice ao ks.length c]] w (OutH w (shS (.mk 24 x m ks))) := by
  have hb := (Below.refl w.heap.size w).alloc (Nat.le_refl _) (.cells #[.int .i64 24, .string ⟨x.toArray⟩, .int .i64 m, .slice ao ks.length c] 24)
  have HX : Hid (shS (.mk 24 x m ks) = ([12], 0, 0, true)) := rfl
  go_enter Tryz.func86, Tryz.ntmps86
  go_wp2
  exact bodyPost_ret (v := .tuple #[.slice (some ⟨w.heap.size + 1, 0, none⟩) 1 1, .int .i64 0, .int .i64 0, .bool (true)]) (by simp [results, Tryz.results86, go_sem]) rfl (outH _ HX.out (srt_box w _ [12] rfl) ((hb.alloc hb.size _)))
set_option maxRecDepth 20000 in
set_option maxHeartbeats 4000000 in
theorem st_25 (x : List UInt8) (m : Int) (ks : List Tr) (ao : Option Addr) (c : Nat) (w : World) :
    Calls Tryz.prog 86 #[.agg #[.int .i64 25, .string ⟨x.toArray⟩, .int .i64 m, .slice ao ks.length c]] w (OutH w (shS (.mk 25 x m ks))) := by
  have hb := (Below.refl w.heap.size w).alloc (Nat.le_refl _) (.cells #[.int .i64 25, .string ⟨x.toArray⟩, .int .i64 m, .slice ao ks.length c] 24)
  by_cases h1 : ks.length = 2
  · have HX : Hid (shS (.mk 25 x m ks) = ([7, 5], 0, 0, true)) := Lib.hid (by simp [shS, Tr.kind, Tr.kids, h1])
    have hd : ((ks.length : Int) == 2) = true := by simp [h1]
    clear h1
    go_enter Tryz.func86, Tryz.ntmps86
    go_wp2
    exact bodyPost_ret (v := .tuple #[.slice (some ⟨w.heap.size + 1, 0, none⟩) 2 2, .int .i64 0, .int .i64 0, .bool (true)]) (by simp [results, Tryz.results86, go_sem]) rfl (outH _ HX.out (srt_box w _ [7, 5] rfl) ((hb.alloc hb.size _)))
  · have HX : Hid (shS (.mk 25 x m ks) = ([7, 5, 13], 0, 0, true)) := Lib.hid (by simp [shS, Tr.kind, Tr.kids, h1])
    have hd : ((ks.length : Int) == 2) = false := by simp; omega
    clear h1
    go_enter Tryz.func86, Tryz.ntmps86
    go_wp2
    exact bodyPost_ret (v := .tuple #[.slice (some ⟨w.heap.size + 1, 0, none⟩) 3 3, .int .i64 0, .int .i64 0, .bool (true)]) (by simp [results, Tryz.results86, go_sem]) rfl (outH _ HX.out (srt_box w _ [7, 5, 13] rfl) ((hb.alloc hb.size _)))
set_option maxRecDepth 20000 in
set_option maxHeartbeats 4000000 in
theorem st_26 (x : List UInt8) (m : Int) (ks : List Tr) (ao : Option Addr) (c : Nat) (w : World) :
    Calls Tryz.prog 86 #[.agg #[.int .i64 26, .string ⟨x.toArray⟩, .int .i64 m, .slice ao ks.length c]] w (OutH w (shS (.mk 26 x m ks))) := by
  have hb := (Below.refl w.heap.size w).alloc (Nat.le_refl _) (.cells #[.int .i64 26, .string ⟨x.toArray⟩, .int .i64 m, .slice ao ks.length c] 24)
  by_cases h1 : ks.length = 1
  · have HX : Hid (shS (.mk 26 x m ks) = ([5], 0, 0, true)) := Lib.hid (by simp [shS, Tr.kind, Tr.kids, h1])
    have hd : ((ks.length : Int) == 1) = true := by simp [h1]
    clear h1
    go_enter Tryz.func86, Tryz.ntmps86
    go_wp2
    exact bodyPost_ret (v := .tuple #[.slice (some ⟨w.heap.size + 1, 0, none⟩) 1 1, .int .i64 0, .int .i64 0, .bool (true)]) (by simp [results, Tryz.results86, go_sem]) rfl (outH _ HX.out (srt_box w _ [5] rfl) ((hb.alloc hb.size _)))
  · have HX : Hid (shS (.mk 26 x m ks) = ([7, 5], 0, 0, true)) := Lib.hid (by simp [shS, Tr.kind, Tr.kids, h1])
    have hd : ((ks.length : Int) == 1) = false := by simp; omega
    clear h1
    go_enter Tryz.func86, Tryz.ntmps86
    go_wp2
    exact bodyPost_ret (v := .tuple #[.slice (some ⟨w.heap.size + 1, 0, none⟩) 2 2, .int .i64 0, .int .i64 0, .bool (true)]) (by simp [results, Tryz.results86, go_sem]) rfl (outH _ HX.out (srt_box w _ [7, 5] rfl) ((hb.alloc hb.size _)))
set_option maxRecDepth 20000 in
set_option maxHeartbeats 4000000 in
theorem st_27 (x : List UInt8) (m : Int) (ks : List Tr) (ao : Option Addr) (c : Nat) (w : World) :
    Calls Tryz.prog 86 #[.agg #[.int .i64 27, .string ⟨x.toArray⟩, .int .i64 m, .slice ao ks.length c]] w (OutH w (shS (.mk 27 x m ks))) := by
  have hb := (Below.refl w.heap.size w).alloc (Nat.le_refl _) (.cells #[.int .i64 27, .string ⟨x.toArray⟩, .int .i64 m, .slice ao ks.length c] 24)
  have HX : Hid (shS (.mk 27 x m ks) = ([], 7, 0, true)) := rfl
  go_enter Tryz.func86, Tryz.ntmps86
  go_wp2
  exact bodyPost_ret (v := .tuple #[.slice none 0 0, .int .i64 7, .int .i64 0, .bool (true)]) (by simp [results, Tryz.results86, go_sem]) rfl (outH _ HX.out (srt_nil _ _) (hb))
set_option maxRecDepth 20000 in
set_option maxHeartbeats 4000000 in
theorem st_28 (x : List UInt8) (m : Int) (ks : List Tr) (ao : Option Addr) (c : Nat) (w : World) :
    Calls Tryz.prog 86 #[.agg #[.int .i64 28, .string ⟨x.toArray⟩, .int .i64 m, .slice ao ks.length c]] w (OutH w (shS (.mk 28 x m ks))) := by
  have hb := (Below.refl w.heap.size w).alloc (Nat.le_refl _) (.cells #[.int .i64 28, .string ⟨x.toArray⟩, .int .i64 m, .slice ao ks.length c] 24)
  have HX : Hid (shS (.mk 28 x m ks) = ([], 0, 0, true)) := rfl
  go_enter Tryz.func86, Tryz.ntmps86
  go_wp2
  exact bodyPost_ret (v := .tuple #[.slice none 0 0, .int .i64 0, .int .i64 0, .bool (true)]) (by simp [results, Tryz.results86, go_sem]) rfl (outH _ HX.out (srt_nil _ _) (hb))
set_option maxRecDepth 20000 in
set_option maxHeartbeats 4000000 in
theorem st_29 (x : List UInt8) (m : Int) (ks : List Tr) (ao : Option Addr) (c : Nat) (w : World) :
    Calls Tryz.prog 86 #[.agg #[.int .i64 29, .string ⟨x.toArray⟩, .int .i64 m, .slice ao ks.length c]] w (OutH w (shS (.mk 29 x m ks))) := by
  have hb := (Below.refl w.heap.size w).alloc (Nat.le_refl _) (.cells #[.int .i64 29, .string ⟨x.toArray⟩, .int .i64 m, .slice ao ks.length c] 24)
  have HX : Hid (shS (.mk 29 x m ks) = ([], 0, 0, true)) := rfl
  go_enter Tryz.func86, Tryz.ntmps86
  go_wp2
  exact bodyPost_ret (v := .tuple #[.slice none 0 0, .int .i64 0, .int .i64 0, .bool (true)]) (by simp [results, Tryz.results86, go_sem]) rfl (outH _ HX.out (srt_nil _ _) (hb))
set_option maxRecDepth 20000 in
set_option maxHeartbeats 4000000 in
theorem stmtT_any (k : Int) (x : List UInt8) (m : Int) (ks : List Tr) (ao : Option Addr) (c : Nat) (w : World) :
    Calls Tryz.prog 86 #[.agg #[.int .i64 k, .string ⟨x.toArray⟩, .int .i64 m, .slice ao ks.length c]] w (OutH w (shS (.mk k x m ks))) := by
  by_cases h20 : k = 20
  · subst h20; exact st_20 x m ks ao c w
  by_cases h21 : k = 21
  · subst h21; exact st_21 x m ks ao c w
  by_cases h22 : k = 22
  · subst h22; exact st_22 x m ks ao c w
  by_cases h23 : k = 23
  · subst h23; exact st_23 x m ks ao c w
  by_cases h24 : k = 24
  · subst h24; exact st_24 x m ks ao c w
  by_cases h25 : k = 25
  · subst h25; exact st_25 x m ks ao c w
  by_cases h26 : k = 26
  · subst h26; exact st_26 x m ks ao c w
  by_cases h27 : k = 27
  · subst h27; exact st_27 x m ks ao c w
  by_cases h28 : k = 28
  · subst h28; exact st_28 x m ks ao c w
  by_cases h29 : k = 29
  · subst h29; exact st_29 x m ks ao c w
  have HX : Hid (shS (.mk k x m ks) = ([], 0, 0, false)) := Lib.hid (by simp [shS, Tr.kind, h20, h21, h22, h23, h24, h25, h26, h27, h28, h29])
  have e20 : (k == 20) = false := by simpa using h20
  have e21 : (k == 21) = false := by simpa using h21
  have e22 : (k == 22) = false := by simpa using h22
  have e23 : (k == 23) = false := by simpa using h23
  have e24 : (k == 24) = false := by simpa using h24
  have e25 : (k == 25) = false := by simpa using h25
  have e26 : (k == 26) = false := by simpa using h26
  have e27 : (k == 27) = false := by simpa using h27
  have e28 : (k == 28) = false := by simpa using h28
  have e29 : (k == 29) = false := by simpa using h29
  clear h20 h21 h22 h23 h24 h25 h26 h27 h28 h29
  have hb := (Below.refl w.heap.size w).alloc (Nat.le_refl _) (.cells #[.int .i64 k, .string ⟨x.toArray⟩, .int .i64 m, .slice ao ks.length c] 24)
  go_enter Tryz.func86, Tryz.ntmps86
  go_wp2
  exact bodyPost_ret (v := .tuple #[.slice none 0 0, .int .i64 0, .int .i64 0, .bool (false)]) (by simp [results, Tryz.results86, go_sem]) rfl (outH _ HX.out (srt_nil _ _) (hb))
end Go.Proofs.YtnkphlkjhgngkaaGreatDoor
