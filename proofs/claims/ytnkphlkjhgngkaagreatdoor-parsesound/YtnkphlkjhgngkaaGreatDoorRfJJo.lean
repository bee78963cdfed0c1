/- The document's shape. -/
import Derived.Test.YtnkphlkjhgngkaaGreatDoorRfFJo
import Derived.Test.YtnkphlkjhgngkaaGreatDoorRfFaJo
namespace Go.Proofs.YtnkphlkjhgngkaaGreatDoor
open Go.RowKit
attribute [local go_sem ↓] Go.wp_at_zero Go.wp_at_succ

set_option maxRecDepth 20000 in
set_option maxHeartbeats 4000000 in
theorem shape_any (s : Int) (k : Int) (x : List UInt8) (m : Int) (ks : List Tr) (ao : Option Addr) (c : Nat) (S : Nat → Prop) (w : World) (hS : ∀ b, S b → b < w.heap.size) (hk : KT w S (.mk k x m ks) (.slice ao ks.length c)) :
    Calls Tryz.prog 48 #[.agg #[.int .i64 k, .string ⟨x.toArray⟩, .int .i64 m, .slice ao ks.length c], .int .i64 s] w (OutH w (shp (.mk k x m ks) s)) := by
  by_cases h1 : s = 1
  · subst h1; exact sp_1 k x m ks ao c w
  by_cases h2 : s = 2
  · subst h2; exact sp_2 k x m ks ao c w
  by_cases h3 : s = 3
  · subst h3; exact sp_3 k x m ks ao c w
  by_cases h4 : s = 4
  · subst h4; exact sp_4 k x m ks ao c w
  by_cases h5 : s = 5
  · subst h5; exact sp_5 k x m ks ao c w
  by_cases h6 : s = 6
  · subst h6; exact sp_6 k x m ks ao c w
  by_cases h7 : s = 7
  · subst h7; exact sp_7 k x m ks ao c w
  by_cases h8 : s = 8
  · subst h8; exact sp_8 k x m ks ao c w
  by_cases h9 : s = 9
  · subst h9; exact sp_9 k x m ks ao c w
  by_cases h10 : s = 10
  · subst h10; exact sp_10 k x m ks ao c w
  by_cases h11 : s = 11
  · subst h11; exact sp_11 k x m ks ao c w
  by_cases h12 : s = 12
  · subst h12; exact sp_12 k x m ks ao c w
  by_cases h13 : s = 13
  · subst h13; exact sp_13 k x m ks ao c w
  by_cases h14 : s = 14
  · subst h14; exact sp_14 k x m ks ao c S w hS hk
  have HX : Hid (shp (.mk k x m ks) s = ([], 0, 0, false)) := Lib.hid (by simp [shp, shE, h1, h2, h3, h4, h5, h6, h7, h8, h9, h10, h11, h12, h13, h14])
  have e1 : (s == 1) = false := by simpa using h1
  have e2 : (s == 2) = false := by simpa using h2
  have e3 : (s == 3) = false := by simpa using h3
  have e4 : (s == 4) = false := by simpa using h4
  have e5 : (s == 5) = false := by simpa using h5
  have e6 : (s == 6) = false := by simpa using h6
  have e7 : (s == 7) = false := by simpa using h7
  have e8 : (s == 8) = false := by simpa using h8
  have e9 : (s == 9) = false := by simpa using h9
  have e10 : (s == 10) = false := by simpa using h10
  have e11 : (s == 11) = false := by simpa using h11
  have e12 : (s == 12) = false := by simpa using h12
  have e13 : (s == 13) = false := by simpa using h13
  have e14 : (s == 14) = false := by simpa using h14
  clear h1 h2 h3 h4 h5 h6 h7 h8 h9 h10 h11 h12 h13 h14
  have hb := (Hx.start (w := w) (c0 := .int .i64 k) (c1 := .string ⟨x.toArray⟩) (c2 := .int .i64 m) (c3 := .slice ao ks.length c)).out
  go_enter Tryz.func48, Tryz.ntmps48
  go_wp2
  exact bodyPost_ret (v := .tuple #[.slice none 0 0, .int .i64 0, .int .i64 0, .bool false]) (by simp [results, Tryz.results48, go_sem]) rfl (outH _ HX.out (srt_nil _ _) hb)
end Go.Proofs.YtnkphlkjhgngkaaGreatDoor
