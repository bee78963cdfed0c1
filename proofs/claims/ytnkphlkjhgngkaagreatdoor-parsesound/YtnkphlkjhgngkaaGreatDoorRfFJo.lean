/- The document's table of all sorts. -/
import Derived.Test.YtnkphlkjhgngkaaGreatDoorRfEJo
namespace Go.Proofs.YtnkphlkjhgngkaaGreatDoor
open Go.RowKit
attribute [local go_sem ↓] Go.wp_at_zero Go.wp_at_succ

theorem Srt.mono {B B' : Nat} {w : World} {xs : List Int} {sl : Value} (h : Srt B w xs sl) (hB : B' ≤ B) : Srt B' w xs sl := by
  obtain ⟨ao, c, h1, h2⟩ := h
  exact ⟨ao, c, h1, fun j x hj => by obtain ⟨g, o, e1, e2, e3⟩ := h2 j x hj; exact ⟨g, o, e1, Nat.le_trans hB e2, e3⟩⟩
set_option maxRecDepth 20000 in
set_option maxHeartbeats 4000000 in
theorem sp_11 (k : Int) (x : List UInt8) (m : Int) (ks : List Tr) (ao : Option Addr) (c : Nat) (w : World) :
    Calls Tryz.prog 48 #[.agg #[.int .i64 k, .string ⟨x.toArray⟩, .int .i64 m, .slice ao ks.length c], .int .i64 11] w (OutH w (shp (.mk k x m ks) 11)) := by
  have hX0 := Hx.start (w := w) (c0 := .int .i64 k) (c1 := .string ⟨x.toArray⟩) (c2 := .int .i64 m) (c3 := .slice ao ks.length c)
  have hb := hX0.out
  have HX : Hid (shp (.mk k x m ks) 11 = ([], 0, 1, k == 44)) := rfl
  go_enter Tryz.func48, Tryz.ntmps48
  go_wp2_with fail
  go_quiet (fail)
  go_wp2
  exact bodyPost_ret (v := .tuple #[.slice none 0 0, .int .i64 0, .int .i64 1, .bool (k == 44)]) (by simp [results, Tryz.results48, go_sem]) rfl (outH _ HX.out (srt_nil _ _) (below_drewN hb _))
set_option maxRecDepth 20000 in
set_option maxHeartbeats 4000000 in
theorem sp_5 (k : Int) (x : List UInt8) (m : Int) (ks : List Tr) (ao : Option Addr) (c : Nat) (w : World) :
    Calls Tryz.prog 48 #[.agg #[.int .i64 k, .string ⟨x.toArray⟩, .int .i64 m, .slice ao ks.length c], .int .i64 5] w (OutH w (shp (.mk k x m ks) 5)) := by
  have hX0 := Hx.start (w := w) (c0 := .int .i64 k) (c1 := .string ⟨x.toArray⟩) (c2 := .int .i64 m) (c3 := .slice ao ks.length c)
  have hb := hX0.out
  have HX : Hid (shp (.mk k x m ks) 5 = ([], 6, 0, k == 20)) := rfl
  go_enter Tryz.func48, Tryz.ntmps48
  go_wp2_with fail
  go_quiet (fail)
  go_wp2
  exact bodyPost_ret (v := .tuple #[.slice none 0 0, .int .i64 6, .int .i64 0, .bool (k == 20)]) (by simp [results, Tryz.results48, go_sem]) rfl (outH _ HX.out (srt_nil _ _) (below_drewN hb _))
set_option maxRecDepth 20000 in
set_option maxHeartbeats 4000000 in
theorem sp_8 (k : Int) (x : List UInt8) (m : Int) (ks : List Tr) (ao : Option Addr) (c : Nat) (w : World) :
    Calls Tryz.prog 48 #[.agg #[.int .i64 k, .string ⟨x.toArray⟩, .int .i64 m, .slice ao ks.length c], .int .i64 8] w (OutH w (shp (.mk k x m ks) 8)) := by
  have hX0 := Hx.start (w := w) (c0 := .int .i64 k) (c1 := .string ⟨x.toArray⟩) (c2 := .int .i64 m) (c3 := .slice ao ks.length c)
  have hb := hX0.out
  have HX : Hid (shp (.mk k x m ks) 8 = ([2], 0, 1, k == 6)) := rfl
  go_enter Tryz.func48, Tryz.ntmps48
  go_wp2_with fail
  go_region
  all_goals
    go_wp2
    exact bodyPost_ret (v := .tuple #[.slice (some ⟨w.heap.size + 1, 0, none⟩) 1 1, .int .i64 0, .int .i64 1, .bool (k == 6)]) (by simp [results, Tryz.results48, go_sem]) rfl (outH _ HX.out (srt_box w _ [2] rfl) (below_drew (hb.alloc hb.size _)))
set_option maxRecDepth 20000 in
set_option maxHeartbeats 4000000 in
theorem sp_9 (k : Int) (x : List UInt8) (m : Int) (ks : List Tr) (ao : Option Addr) (c : Nat) (w : World) :
    Calls Tryz.prog 48 #[.agg #[.int .i64 k, .string ⟨x.toArray⟩, .int .i64 m, .slice ao ks.length c], .int .i64 9] w (OutH w (shp (.mk k x m ks) 9)) := by
  have hX0 := Hx.start (w := w) (c0 := .int .i64 k) (c1 := .string ⟨x.toArray⟩) (c2 := .int .i64 m) (c3 := .slice ao ks.length c)
  have hb := hX0.out
  have HX : Hid (shp (.mk k x m ks) 9 = ([3], 0, 1, k == 6)) := rfl
  go_enter Tryz.func48, Tryz.ntmps48
  go_wp2_with fail
  go_region
  all_goals
    go_wp2
    exact bodyPost_ret (v := .tuple #[.slice (some ⟨w.heap.size + 1, 0, none⟩) 1 1, .int .i64 0, .int .i64 1, .bool (k == 6)]) (by simp [results, Tryz.results48, go_sem]) rfl (outH _ HX.out (srt_box w _ [3] rfl) (below_drew (hb.alloc hb.size _)))
set_option maxRecDepth 20000 in
set_option maxHeartbeats 4000000 in
theorem sp_4 (k : Int) (x : List UInt8) (m : Int) (ks : List Tr) (ao : Option Addr) (c : Nat) (w : World) :
    Calls Tryz.prog 48 #[.agg #[.int .i64 k, .string ⟨x.toArray⟩, .int .i64 m, .slice ao ks.length c], .int .i64 4] w (OutH w (shp (.mk k x m ks) 4)) := by
  have hX0 := Hx.start (w := w) (c0 := .int .i64 k) (c1 := .string ⟨x.toArray⟩) (c2 := .int .i64 m) (c3 := .slice ao ks.length c)
  have hb := hX0.out
  have HX : Hid (shp (.mk k x m ks) 4 = ([2], 0, 1, k == 8)) := rfl
  go_enter Tryz.func48, Tryz.ntmps48
  go_wp2_with fail
  go_region
  all_goals
    go_wp2
    exact bodyPost_ret (v := .tuple #[.slice (some ⟨w.heap.size + 1, 0, none⟩) 1 1, .int .i64 0, .int .i64 1, .bool (k == 8)]) (by simp [results, Tryz.results48, go_sem]) rfl (outH _ HX.out (srt_box w _ [2] rfl) (below_drew (hb.alloc hb.size _)))
set_option maxRecDepth 20000 in
set_option maxHeartbeats 4000000 in
theorem sp_1 (k : Int) (x : List UInt8) (m : Int) (ks : List Tr) (ao : Option Addr) (c : Nat) (w : World) :
    Calls Tryz.prog 48 #[.agg #[.int .i64 k, .string ⟨x.toArray⟩, .int .i64 m, .slice ao ks.length c], .int .i64 1] w (OutH w (shp (.mk k x m ks) 1)) := by
  have hX0 := Hx.start (w := w) (c0 := .int .i64 k) (c1 := .string ⟨x.toArray⟩) (c2 := .int .i64 m) (c3 := .slice ao ks.length c)
  have hb := hX0.out
  by_cases h2 : k = 2
  · subst h2
    have HX : Hid (shp (.mk 2 x m ks) 1 = ([], 8, 1, true)) := rfl
    go_enter Tryz.func48, Tryz.ntmps48
    go_wp2
    exact bodyPost_ret (v := .tuple #[.slice none 0 0, .int .i64 8, .int .i64 1, .bool (true)]) (by simp [results, Tryz.results48, go_sem]) rfl (outH _ HX.out (srt_nil _ _) (hb))
  by_cases h3 : k = 3
  · subst h3
    have HX : Hid (shp (.mk 3 x m ks) 1 = ([], 9, 1, true)) := rfl
    go_enter Tryz.func48, Tryz.ntmps48
    go_wp2
    exact bodyPost_ret (v := .tuple #[.slice none 0 0, .int .i64 9, .int .i64 1, .bool (true)]) (by simp [results, Tryz.results48, go_sem]) rfl (outH _ HX.out (srt_nil _ _) (hb))
  by_cases h4 : k = 4
  · subst h4
    have HX : Hid (shp (.mk 4 x m ks) 1 = ([3, 5], 0, 1, true)) := rfl
    go_enter Tryz.func48, Tryz.ntmps48
    go_wp2
    exact bodyPost_ret (v := .tuple #[.slice (some ⟨w.heap.size + 1, 0, none⟩) 2 2, .int .i64 0, .int .i64 1, .bool (true)]) (by simp [results, Tryz.results48, go_sem]) rfl (outH _ HX.out (srt_box w _ [3, 5] rfl) (hb.alloc hb.size _))
  by_cases h5 : k = 5
  · subst h5
    have HX : Hid (shp (.mk 5 x m ks) 1 = ([14, 3, 5], 0, 1, true)) := rfl
    go_enter Tryz.func48, Tryz.ntmps48
    go_wp2
    exact bodyPost_ret (v := .tuple #[.slice (some ⟨w.heap.size + 1, 0, none⟩) 3 3, .int .i64 0, .int .i64 1, .bool (true)]) (by simp [results, Tryz.results48, go_sem]) rfl (outH _ HX.out (srt_box w _ [14, 3, 5] rfl) (hb.alloc hb.size _))
  have HX : Hid (shp (.mk k x m ks) 1 = ([], 0, 0, false)) := Lib.hid (by simp [shp, shE, Tr.kind, h2, h3, h4, h5])
  have e2 : (k == 2) = false := by simpa using h2
  have e3 : (k == 3) = false := by simpa using h3
  have e4 : (k == 4) = false := by simpa using h4
  have e5 : (k == 5) = false := by simpa using h5
  clear h2 h3 h4 h5
  go_enter Tryz.func48, Tryz.ntmps48
  go_wp2
  exact bodyPost_ret (v := .tuple #[.slice none 0 0, .int .i64 0, .int .i64 0, .bool (false)]) (by simp [results, Tryz.results48, go_sem]) rfl (outH _ HX.out (srt_nil _ _) (hb))
set_option maxRecDepth 20000 in
set_option maxHeartbeats 4000000 in
theorem sp_2 (k : Int) (x : List UInt8) (m : Int) (ks : List Tr) (ao : Option Addr) (c : Nat) (w : World) :
    Calls Tryz.prog 48 #[.agg #[.int .i64 k, .string ⟨x.toArray⟩, .int .i64 m, .slice ao ks.length c], .int .i64 2] w (OutH w (shp (.mk k x m ks) 2)) := by
  have hX0 := Hx.start (w := w) (c0 := .int .i64 k) (c1 := .string ⟨x.toArray⟩) (c2 := .int .i64 m) (c3 := .slice ao ks.length c)
  have hb := hX0.out
  by_cases h10 : k = 10
  · subst h10
    have HX : Hid (shp (.mk 10 x m ks) 2 = ([], 0, 1, true)) := rfl
    go_enter Tryz.func48, Tryz.ntmps48
    go_wp2
    exact bodyPost_ret (v := .tuple #[.slice none 0 0, .int .i64 0, .int .i64 1, .bool (true)]) (by simp [results, Tryz.results48, go_sem]) rfl (outH _ HX.out (srt_nil _ _) (hb))
  by_cases h11 : k = 11
  · subst h11
    have HX : Hid (shp (.mk 11 x m ks) 2 = ([2], 0, 0, true)) := rfl
    go_enter Tryz.func48, Tryz.ntmps48
    go_wp2
    exact bodyPost_ret (v := .tuple #[.slice (some ⟨w.heap.size + 1, 0, none⟩) 1 1, .int .i64 0, .int .i64 0, .bool (true)]) (by simp [results, Tryz.results48, go_sem]) rfl (outH _ HX.out (srt_box w _ [2] rfl) (hb.alloc hb.size _))
  by_cases h12 : k = 12
  · subst h12
    have HX : Hid (shp (.mk 12 x m ks) 2 = ([2], 0, 0, true)) := rfl
    go_enter Tryz.func48, Tryz.ntmps48
    go_wp2
    exact bodyPost_ret (v := .tuple #[.slice (some ⟨w.heap.size + 1, 0, none⟩) 1 1, .int .i64 0, .int .i64 0, .bool (true)]) (by simp [results, Tryz.results48, go_sem]) rfl (outH _ HX.out (srt_box w _ [2] rfl) (hb.alloc hb.size _))
  by_cases h13 : k = 13
  · subst h13
    by_cases h1 : 0 ≤ m
    · have hd1 : decide (0 ≤ m) = true := decide_eq_true h1
      have HX : Hid (shp (.mk 13 x m ks) 2 = ([], 2, 0, decide (m ≤ ks.length))) := Lib.hid (by show (_, _, _, decide (0 ≤ m) && decide (m ≤ ks.length)) = _; rw [hd1]; rfl)
      clear h1
      go_enter Tryz.func48, Tryz.ntmps48
      go_wp2_with fail
      go_quiet (fail)
      go_wp2
      exact bodyPost_ret (v := .tuple #[.slice none 0 0, .int .i64 2, .int .i64 0, .bool (decide (m ≤ ks.length))]) (by simp [results, Tryz.results48, go_sem]) rfl (outH _ HX.out (srt_nil _ _) (below_drewN hb _))
    · have hd1 : decide (0 ≤ m) = false := decide_eq_false h1
      have HX : Hid (shp (.mk 13 x m ks) 2 = ([], 2, 0, false)) := Lib.hid (by show (_, _, _, decide (0 ≤ m) && decide (m ≤ ks.length)) = _; rw [hd1]; rfl)
      clear h1
      go_enter Tryz.func48, Tryz.ntmps48
      go_wp2_with fail
      go_quiet (fail)
      go_wp2
      exact bodyPost_ret (v := .tuple #[.slice none 0 0, .int .i64 2, .int .i64 0, .bool (false)]) (by simp [results, Tryz.results48, go_sem]) rfl (outH _ HX.out (srt_nil _ _) (below_drewN hb _))
  have HX : Hid (shp (.mk k x m ks) 2 = ([], 0, 0, false)) := Lib.hid (by simp [shp, shE, Tr.kind, h10, h11, h12, h13])
  have e10 : (k == 10) = false := by simpa using h10
  have e11 : (k == 11) = false := by simpa using h11
  have e12 : (k == 12) = false := by simpa using h12
  have e13 : (k == 13) = false := by simpa using h13
  clear h10 h11 h12 h13
  go_enter Tryz.func48, Tryz.ntmps48
  go_wp2
  exact bodyPost_ret (v := .tuple #[.slice none 0 0, .int .i64 0, .int .i64 0, .bool (false)]) (by simp [results, Tryz.results48, go_sem]) rfl (outH _ HX.out (srt_nil _ _) (hb))
set_option maxRecDepth 20000 in
set_option maxHeartbeats 4000000 in
theorem sp_6 (k : Int) (x : List UInt8) (m : Int) (ks : List Tr) (ao : Option Addr) (c : Nat) (w : World) :
    Calls Tryz.prog 48 #[.agg #[.int .i64 k, .string ⟨x.toArray⟩, .int .i64 m, .slice ao ks.length c], .int .i64 6] w (OutH w (shp (.mk k x m ks) 6)) := by
  have hX0 := Hx.start (w := w) (c0 := .int .i64 k) (c1 := .string ⟨x.toArray⟩) (c2 := .int .i64 m) (c3 := .slice ao ks.length c)
  have hb := hX0.out
  have HX : Hid (shp (.mk k x m ks) 6 = shS (.mk k x m ks)) := rfl
  obtain ⟨⟨xs, rest, tx, ok⟩, hsh⟩ : ∃ sh, shS (.mk k x m ks) = sh := ⟨_, rfl⟩
  have cS := stmtT_any k x m ks ao c
  rw [hsh] at HX cS
  clear hsh
  go_enter Tryz.func48, Tryz.ntmps48
  go_wp2_with (go_at_call 86; refine (cS _).mono ?_; rintro e w1 ⟨sl1, rfl, hs1, hb1⟩)
  have hX1 := hX0.next hb1
  go_wp2
  exact bodyPost_ret (v := .tuple #[sl1, .int .i64 rest, .int .i64 tx, .bool ok]) (by simp [results, Tryz.results48, go_sem]) rfl (outH _ HX.out (hs1.mono hX0.szd) hX1.out)
set_option maxRecDepth 20000 in
set_option maxHeartbeats 4000000 in
theorem sp_7 (k : Int) (x : List UInt8) (m : Int) (ks : List Tr) (ao : Option Addr) (c : Nat) (w : World) :
    Calls Tryz.prog 48 #[.agg #[.int .i64 k, .string ⟨x.toArray⟩, .int .i64 m, .slice ao ks.length c], .int .i64 7] w (OutH w (shp (.mk k x m ks) 7)) := by
  have hX0 := Hx.start (w := w) (c0 := .int .i64 k) (c1 := .string ⟨x.toArray⟩) (c2 := .int .i64 m) (c3 := .slice ao ks.length c)
  have hb := hX0.out
  have HX : Hid (shp (.mk k x m ks) 7 = shX (.mk k x m ks)) := rfl
  obtain ⟨⟨xs, rest, tx, ok⟩, hsh⟩ : ∃ sh, shX (.mk k x m ks) = sh := ⟨_, rfl⟩
  have cS := exprT_any k x m ks ao c
  rw [hsh] at HX cS
  clear hsh
  go_enter Tryz.func48, Tryz.ntmps48
  go_wp2_with (go_at_call 87; refine (cS _).mono ?_; rintro e w1 ⟨sl1, rfl, hs1, hb1⟩)
  have hX1 := hX0.next hb1
  go_wp2
  exact bodyPost_ret (v := .tuple #[sl1, .int .i64 rest, .int .i64 tx, .bool ok]) (by simp [results, Tryz.results48, go_sem]) rfl (outH _ HX.out (hs1.mono hX0.szd) hX1.out)
set_option maxRecDepth 20000 in
set_option maxHeartbeats 4000000 in
theorem sp_13 (k : Int) (x : List UInt8) (m : Int) (ks : List Tr) (ao : Option Addr) (c : Nat) (w : World) :
    Calls Tryz.prog 48 #[.agg #[.int .i64 k, .string ⟨x.toArray⟩, .int .i64 m, .slice ao ks.length c], .int .i64 13] w (OutH w (shp (.mk k x m ks) 13)) := by
  have hX0 := Hx.start (w := w) (c0 := .int .i64 k) (c1 := .string ⟨x.toArray⟩) (c2 := .int .i64 m) (c3 := .slice ao ks.length c)
  have hb := hX0.out
  by_cases h25 : k = 25
  · subst h25
    have HX : Hid (shp (.mk 25 x m ks) 13 = shS (.mk 25 x m ks)) := rfl
    obtain ⟨⟨xs, rest, tx, ok⟩, hsh⟩ : ∃ sh, shS (.mk 25 x m ks) = sh := ⟨_, rfl⟩
    have cS : ∀ W, Calls Tryz.prog 48 _ W (OutH W (shS (.mk 25 x m ks))) := sp_6 25 x m ks ao c
    rw [hsh] at HX cS
    clear hsh
    go_enter Tryz.func48, Tryz.ntmps48
    go_wp2_with (go_at_call 48; refine (cS _).mono ?_; rintro e w1 ⟨sl1, rfl, hs1, hb1⟩)
    have hX1 := hX0.next hb1
    go_wp2
    exact bodyPost_ret (v := .tuple #[sl1, .int .i64 rest, .int .i64 tx, .bool ok]) (by simp [results, Tryz.results48, go_sem]) rfl (outH _ HX.out (hs1.mono hX0.szd) hX1.out)
  · have e25 : (k == 25) = false := by simpa using h25
    have HX : Hid (shp (.mk k x m ks) 13 = shE (.mk k x m ks) 5) := Lib.hid (by simp [shp, Tr.kind, h25])
    obtain ⟨⟨xs, rest, tx, ok⟩, hsh⟩ : ∃ sh, shE (.mk k x m ks) 5 = sh := ⟨_, rfl⟩
    have cS : ∀ W, Calls Tryz.prog 48 _ W (OutH W (shE (.mk k x m ks) 5)) := sp_5 k x m ks ao c
    rw [hsh] at HX cS
    clear hsh h25
    go_enter Tryz.func48, Tryz.ntmps48
    go_wp2_with (go_at_call 48; refine (cS _).mono ?_; rintro e w1 ⟨sl1, rfl, hs1, hb1⟩)
    have hX1 := hX0.next hb1
    go_wp2
    exact bodyPost_ret (v := .tuple #[sl1, .int .i64 rest, .int .i64 tx, .bool ok]) (by simp [results, Tryz.results48, go_sem]) rfl (outH _ HX.out (hs1.mono hX0.szd) hX1.out)
set_option maxRecDepth 20000 in
set_option maxHeartbeats 4000000 in
theorem sp_12 (k : Int) (x : List UInt8) (m : Int) (ks : List Tr) (ao : Option Addr) (c : Nat) (w : World) :
    Calls Tryz.prog 48 #[.agg #[.int .i64 k, .string ⟨x.toArray⟩, .int .i64 m, .slice ao ks.length c], .int .i64 12] w (OutH w (shp (.mk k x m ks) 12)) := by
  have hX0 := Hx.start (w := w) (c0 := .int .i64 k) (c1 := .string ⟨x.toArray⟩) (c2 := .int .i64 m) (c3 := .slice ao ks.length c)
  have hb := hX0.out
  obtain ⟨⟨xs, rest, tx, ok⟩, hsh⟩ : ∃ sh, shX (.mk k x m ks) = sh := ⟨_, rfl⟩
  have cS : ∀ W, Calls Tryz.prog 48 _ W (OutH W (shX (.mk k x m ks))) := sp_7 k x m ks ao c
  rw [hsh] at cS
  cases ok with
  | true =>
    have HX : Hid (shp (.mk k x m ks) 12 = (xs, rest, tx, k == 51)) := Lib.hid (by show ((shX (.mk k x m ks)).1, (shX (.mk k x m ks)).2.1, (shX (.mk k x m ks)).2.2.1, (shX (.mk k x m ks)).2.2.2 && k == 51) = _; rw [hsh]; rfl)
    clear hsh
    go_enter Tryz.func48, Tryz.ntmps48
    go_wp2_with (go_at_call 48; refine (cS _).mono ?_; rintro e w1 ⟨sl1, rfl, hs1, hb1⟩)
    have hX1 := hX0.next hb1
    have hb2 := hX1.out
    obtain ⟨x0, x1, x2, x3⟩ := hX1.cells
    go_wp2_with fail
    go_quiet (fail)
    go_wp2
    exact bodyPost_ret (v := .tuple #[sl1, .int .i64 rest, .int .i64 tx, .bool (k == 51)]) (by simp [results, Tryz.results48, go_sem]) rfl (outH _ HX.out (hs1.mono hX0.szd) (below_drewN hb2 _))
  | false =>
    have HX : Hid (shp (.mk k x m ks) 12 = (xs, rest, tx, false)) := Lib.hid (by show ((shX (.mk k x m ks)).1, (shX (.mk k x m ks)).2.1, (shX (.mk k x m ks)).2.2.1, (shX (.mk k x m ks)).2.2.2 && k == 51) = _; rw [hsh]; rfl)
    clear hsh
    go_enter Tryz.func48, Tryz.ntmps48
    go_wp2_with (go_at_call 48; refine (cS _).mono ?_; rintro e w1 ⟨sl1, rfl, hs1, hb1⟩)
    have hX1 := hX0.next hb1
    have hb2 := hX1.out
    obtain ⟨x0, x1, x2, x3⟩ := hX1.cells
    go_wp2_with fail
    go_quiet (fail)
    go_wp2
    exact bodyPost_ret (v := .tuple #[sl1, .int .i64 rest, .int .i64 tx, .bool (false)]) (by simp [results, Tryz.results48, go_sem]) rfl (outH _ HX.out (hs1.mono hX0.szd) (below_drewN hb2 _))
set_option maxRecDepth 20000 in
set_option maxHeartbeats 4000000 in
theorem sp_10 (k : Int) (x : List UInt8) (m : Int) (ks : List Tr) (ao : Option Addr) (c : Nat) (w : World) :
    Calls Tryz.prog 48 #[.agg #[.int .i64 k, .string ⟨x.toArray⟩, .int .i64 m, .slice ao ks.length c], .int .i64 10] w (OutH w (shp (.mk k x m ks) 10)) := by
  have hX0 := Hx.start (w := w) (c0 := .int .i64 k) (c1 := .string ⟨x.toArray⟩) (c2 := .int .i64 m) (c3 := .slice ao ks.length c)
  have hb := hX0.out
  obtain ⟨⟨xs, rest, tx, ok⟩, hsh⟩ : ∃ sh, shX (.mk k x m ks) = sh := ⟨_, rfl⟩
  have cS : ∀ W, Calls Tryz.prog 48 _ W (OutH W (shX (.mk k x m ks))) := sp_7 k x m ks ao c
  rw [hsh] at cS
  by_cases h44 : k = 44
  · subst h44
    have HX : Hid (shp (.mk 44 x m ks) 10 = (xs, rest, tx, ok)) := Lib.hid (by show ((shX (.mk 44 x m ks)).1, (shX (.mk 44 x m ks)).2.1, (shX (.mk 44 x m ks)).2.2.1, isPlaceT (.mk 44 x m ks) && (shX (.mk 44 x m ks)).2.2.2) = _; rw [hsh, show isPlaceT (.mk 44 x m ks) = true from rfl]; rfl)
    clear hsh
    go_enter Tryz.func48, Tryz.ntmps48
    go_wp2_with (go_at_call 48; refine (cS _).mono ?_; rintro e w1 ⟨sl1, rfl, hs1, hb1⟩)
    have hX1 := hX0.next hb1
    go_wp2
    exact bodyPost_ret (v := .tuple #[sl1, .int .i64 rest, .int .i64 tx, .bool ok]) (by simp [results, Tryz.results48, go_sem]) rfl (outH _ HX.out (hs1.mono hX0.szd) hX1.out)
  by_cases h48 : k = 48
  · subst h48
    have HX : Hid (shp (.mk 48 x m ks) 10 = (xs, rest, tx, ok)) := Lib.hid (by show ((shX (.mk 48 x m ks)).1, (shX (.mk 48 x m ks)).2.1, (shX (.mk 48 x m ks)).2.2.1, isPlaceT (.mk 48 x m ks) && (shX (.mk 48 x m ks)).2.2.2) = _; rw [hsh, show isPlaceT (.mk 48 x m ks) = true from rfl]; rfl)
    clear hsh
    go_enter Tryz.func48, Tryz.ntmps48
    go_wp2_with (go_at_call 48; refine (cS _).mono ?_; rintro e w1 ⟨sl1, rfl, hs1, hb1⟩)
    have hX1 := hX0.next hb1
    go_wp2
    exact bodyPost_ret (v := .tuple #[sl1, .int .i64 rest, .int .i64 tx, .bool ok]) (by simp [results, Tryz.results48, go_sem]) rfl (outH _ HX.out (hs1.mono hX0.szd) hX1.out)
  by_cases h49 : k = 49
  · subst h49
    have HX : Hid (shp (.mk 49 x m ks) 10 = (xs, rest, tx, ok)) := Lib.hid (by show ((shX (.mk 49 x m ks)).1, (shX (.mk 49 x m ks)).2.1, (shX (.mk 49 x m ks)).2.2.1, isPlaceT (.mk 49 x m ks) && (shX (.mk 49 x m ks)).2.2.2) = _; rw [hsh, show isPlaceT (.mk 49 x m ks) = true from rfl]; rfl)
    clear hsh
    go_enter Tryz.func48, Tryz.ntmps48
    go_wp2_with (go_at_call 48; refine (cS _).mono ?_; rintro e w1 ⟨sl1, rfl, hs1, hb1⟩)
    have hX1 := hX0.next hb1
    go_wp2
    exact bodyPost_ret (v := .tuple #[sl1, .int .i64 rest, .int .i64 tx, .bool ok]) (by simp [results, Tryz.results48, go_sem]) rfl (outH _ HX.out (hs1.mono hX0.szd) hX1.out)
  by_cases h52 : k = 52
  · subst h52
    by_cases hx : x = [42]
    · subst hx
      have HX : Hid (shp (.mk 52 [42] m ks) 10 = (xs, rest, tx, ok)) := Lib.hid (by show ((shX (.mk 52 [42] m ks)).1, (shX (.mk 52 [42] m ks)).2.1, (shX (.mk 52 [42] m ks)).2.2.1, isPlaceT (.mk 52 [42] m ks) && (shX (.mk 52 [42] m ks)).2.2.2) = _; rw [hsh, show isPlaceT (.mk 52 [42] m ks) = true from rfl]; rfl)
      clear hsh
      go_enter Tryz.func48, Tryz.ntmps48
      go_wp2_with (go_at_call 48; refine (cS _).mono ?_; rintro e w1 ⟨sl1, rfl, hs1, hb1⟩)
      have hX1 := hX0.next hb1
      go_wp2
      exact bodyPost_ret (v := .tuple #[sl1, .int .i64 rest, .int .i64 tx, .bool ok]) (by simp [results, Tryz.results48, go_sem]) rfl (outH _ HX.out (hs1.mono hX0.szd) hX1.out)
    · have ex : (x == [42]) = false := by simpa using hx
      have HX : Hid (shp (.mk 52 x m ks) 10 = (xs, rest, tx, false)) := Lib.hid (by show ((shX (.mk 52 x m ks)).1, (shX (.mk 52 x m ks)).2.1, (shX (.mk 52 x m ks)).2.2.1, isPlaceT (.mk 52 x m ks) && (shX (.mk 52 x m ks)).2.2.2) = _; rw [hsh, show isPlaceT (.mk 52 x m ks) = false from (by simp [isPlaceT, Tr.kind, Tr.text, ex])]; rfl)
      clear hsh
      clear hx
      go_enter Tryz.func48, Tryz.ntmps48
      go_wp2_with (go_at_call 48; refine (cS _).mono ?_; rintro e w1 ⟨sl1, rfl, hs1, hb1⟩)
      have hX1 := hX0.next hb1
      go_wp2
      exact bodyPost_ret (v := .tuple #[sl1, .int .i64 rest, .int .i64 tx, .bool false]) (by simp [results, Tryz.results48, go_sem]) rfl (outH _ HX.out (hs1.mono hX0.szd) hX1.out)
  have HX : Hid (shp (.mk k x m ks) 10 = (xs, rest, tx, false)) := Lib.hid (by show ((shX (.mk k x m ks)).1, (shX (.mk k x m ks)).2.1, (shX (.mk k x m ks)).2.2.1, isPlaceT (.mk k x m ks) && (shX (.mk k x m ks)).2.2.2) = _; rw [hsh, show isPlaceT (.mk k x m ks) = false from (by simp [isPlaceT, Tr.kind, h44, h48, h49, h52])]; rfl)
  clear hsh
  have e44 : (k == 44) = false := by simpa using h44
  have e48 : (k == 48) = false := by simpa using h48
  have e49 : (k == 49) = false := by simpa using h49
  have e52 : (k == 52) = false := by simpa using h52
  clear h44 h48 h49 h52
  go_enter Tryz.func48, Tryz.ntmps48
  go_wp2_with (go_at_call 48; refine (cS _).mono ?_; rintro e w1 ⟨sl1, rfl, hs1, hb1⟩)
  have hX1 := hX0.next hb1
  go_wp2
  exact bodyPost_ret (v := .tuple #[sl1, .int .i64 rest, .int .i64 tx, .bool false]) (by simp [results, Tryz.results48, go_sem]) rfl (outH _ HX.out (hs1.mono hX0.szd) hX1.out)
set_option maxRecDepth 20000 in
set_option maxHeartbeats 4000000 in
theorem sp_14 (k : Int) (x : List UInt8) (m : Int) (ks : List Tr) (ao : Option Addr) (c : Nat) (S : Nat → Prop) (w : World) (hS : ∀ b, S b → b < w.heap.size) (hk : KT w S (.mk k x m ks) (.slice ao ks.length c)) :
    Calls Tryz.prog 48 #[.agg #[.int .i64 k, .string ⟨x.toArray⟩, .int .i64 m, .slice ao ks.length c], .int .i64 14] w (OutH w (shp (.mk k x m ks) 14)) := by
  have hX0 := Hx.start (w := w) (c0 := .int .i64 k) (c1 := .string ⟨x.toArray⟩) (c2 := .int .i64 m) (c3 := .slice ao ks.length c)
  have hb := hX0.out
  have hL := Lst.of hk
  obtain ⟨x0, x1, x2, x3⟩ := hX0.cells
  obtain ⟨W, hW⟩ : ∃ W, w.alloc (.cells #[.int .i64 k, .string ⟨x.toArray⟩, .int .i64 m, .slice ao ks.length c] 24) = W := ⟨_, rfl⟩
  rw [hW] at hX0 hb x0 x1 x2 x3
  have x0a := (hX0.next ((Below.refl W.heap.size W).alloc (Nat.le_refl _) (.cells #[.int .i64 2] 3))).cells.1
  clear hk
  by_cases h1 : ks.length = 1
  · obtain ⟨a, rfl⟩ := List.length_eq_one_iff.1 h1
    clear h1
    obtain ⟨g, o, a0, n0, q0, rfl, y0, y1, y2, y3, hg, hka⟩ := hL.kid0 rfl hS
    have z0 := (hb.cell (p := ⟨g, o, none⟩) hg).trans y0
    have z3 := (hb.cell (p := ⟨g, o + 3, none⟩) hg).trans y3
    replace hW : w.alloc (.cells #[.int .i64 k, .string ⟨x.toArray⟩, .int .i64 m, .slice (some ⟨g, o, none⟩) 1 c] 24) = W := hW
    replace x3 : W.cell? ⟨w.heap.size, 3, none⟩ = some (.slice (some ⟨g, o, none⟩) 1 c) := x3
    change Calls Tryz.prog 48 #[.agg #[.int .i64 k, .string ⟨x.toArray⟩, .int .i64 m, .slice (some ⟨g, o, none⟩) 1 c], .int .i64 14] w _
    clear hX0
    obtain ⟨ak, av, am, aks⟩ := a
    have hLa := Lst.of hka
    obtain ⟨_, _, e⟩ := hLa.slice
    injection e with e4 e5 e7
    clear e4 e7
    subst e5
    simp only [Tr.kind] at z0
    clear y0 y1 y2 y3 hka hL
    by_cases h11 : ak = 11
    · subst h11
      by_cases h2 : aks.length = 1
      · obtain ⟨b, rfl⟩ := List.length_eq_one_iff.1 h2
        clear h2
        obtain ⟨g', o', b0, n1, q1, rfl, y0, y1, y2, y3, hg', hkb⟩ := hLa.kid0 rfl hS
        have u0 := (hb.cell (p := ⟨g', o', none⟩) hg').trans y0
        replace z3 : W.cell? ⟨g, o + 3, none⟩ = some (.slice (some ⟨g', o', none⟩) 1 q0) := z3
        obtain ⟨bk, bv, bm, bks⟩ := b
        simp only [Tr.kind] at u0
        clear y0 y1 y2 y3 hkb hLa
        by_cases h10 : bk = 10
        · subst h10
          have HX : Hid (shp (.mk k x m [.mk 11 av am [.mk 10 bv bm bks]]) 14 = ([2], 0, 1, k == 8)) := Lib.hid (by show ([2], 0, 1, okR (.mk k x m [.mk 11 av am [.mk 10 bv bm bks]]) && k == 8) = _; rw [show okR (.mk k x m [.mk 11 av am [.mk 10 bv bm bks]]) = true from rfl]; rfl)
          go_enter Tryz.func48, Tryz.ntmps48
          go_wp2_with fail
          (first | go_region_with (fail) | fail)
          all_goals
            go_wp2
            exact bodyPost_ret (v := .tuple #[.slice (some ⟨W.heap.size, 0, none⟩) 1 1, .int .i64 0, .int .i64 1, .bool (k == 8)]) (by simp [results, Tryz.results48, go_sem]) rfl (outH _ HX.out (srt_lit hb.size [2]) (below_drew (hb.alloc hb.size _)))
        · have e10 : (bk == 10) = false := by simpa using h10
          clear h10
          have HX : Hid (shp (.mk k x m [.mk 11 av am [.mk bk bv bm bks]]) 14 = ([2], 0, 1, false)) := Lib.hid (by show ([2], 0, 1, okR (.mk k x m [.mk 11 av am [.mk bk bv bm bks]]) && k == 8) = _; rw [show okR (.mk k x m [.mk 11 av am [.mk bk bv bm bks]]) = false from (show (true && (bk == 10)) = false by rw [e10]; rfl)]; rfl)
          go_enter Tryz.func48, Tryz.ntmps48
          go_wp2_with fail
          (first | go_region_with (fail) | fail)
          all_goals
            go_wp2
            exact bodyPost_ret (v := .tuple #[.slice (some ⟨W.heap.size, 0, none⟩) 1 1, .int .i64 0, .int .i64 1, .bool (false)]) (by simp [results, Tryz.results48, go_sem]) rfl (outH _ HX.out (srt_lit hb.size [2]) (below_drew (hb.alloc hb.size _)))
      · have e2 : ((aks.length : Int) == 1) = false := by simp; omega
        have eo : okR (.mk k x m [.mk 11 av am aks]) = false := by
          match aks, h2 with
          | [], _ => rfl
          | [_], h => exact absurd rfl h
          | _ :: _ :: _, _ => rfl
        clear h2
        have HX : Hid (shp (.mk k x m [.mk 11 av am aks]) 14 = ([2], 0, 1, false)) := Lib.hid (by show ([2], 0, 1, okR (.mk k x m [.mk 11 av am aks]) && k == 8) = _; rw [show okR (.mk k x m [.mk 11 av am aks]) = false from eo]; rfl)
        go_enter Tryz.func48, Tryz.ntmps48
        go_wp2_with fail
        (first | go_region_with (fail) | fail)
        all_goals
          go_wp2
          exact bodyPost_ret (v := .tuple #[.slice (some ⟨W.heap.size, 0, none⟩) 1 1, .int .i64 0, .int .i64 1, .bool (false)]) (by simp [results, Tryz.results48, go_sem]) rfl (outH _ HX.out (srt_lit hb.size [2]) (below_drew (hb.alloc hb.size _)))
    · have e11 : (ak == 11) = false := by simpa using h11
      have eo : okR (.mk k x m [.mk ak av am aks]) = false := by show ((ak == 11) && _) = false; rw [e11]; rfl
      clear h11
      have HX : Hid (shp (.mk k x m [.mk ak av am aks]) 14 = ([2], 0, 1, false)) := Lib.hid (by show ([2], 0, 1, okR (.mk k x m [.mk ak av am aks]) && k == 8) = _; rw [show okR (.mk k x m [.mk ak av am aks]) = false from eo]; rfl)
      go_enter Tryz.func48, Tryz.ntmps48
      go_wp2_with fail
      (first | go_region_with (fail) | fail)
      all_goals
        go_wp2
        exact bodyPost_ret (v := .tuple #[.slice (some ⟨W.heap.size, 0, none⟩) 1 1, .int .i64 0, .int .i64 1, .bool (false)]) (by simp [results, Tryz.results48, go_sem]) rfl (outH _ HX.out (srt_lit hb.size [2]) (below_drew (hb.alloc hb.size _)))
  · have e1 : ((ks.length : Int) == 1) = false := by simp; omega
    have eo : okR (.mk k x m ks) = false := by
      match ks, h1 with
      | [], _ => rfl
      | [_], h => exact absurd rfl h
      | _ :: _ :: _, _ => rfl
    clear h1 hL
    have HX : Hid (shp (.mk k x m ks) 14 = ([2], 0, 1, false)) := Lib.hid (by show ([2], 0, 1, okR (.mk k x m ks) && k == 8) = _; rw [show okR (.mk k x m ks) = false from eo]; rfl)
    go_enter Tryz.func48, Tryz.ntmps48
    go_wp2_with fail
    (first | go_region_with (fail) | fail)
    all_goals
      go_wp2
      exact bodyPost_ret (v := .tuple #[.slice (some ⟨W.heap.size, 0, none⟩) 1 1, .int .i64 0, .int .i64 1, .bool (false)]) (by simp [results, Tryz.results48, go_sem]) rfl (outH _ HX.out (srt_lit hb.size [2]) (below_drew (hb.alloc hb.size _)))
end Go.Proofs.YtnkphlkjhgngkaaGreatDoor
