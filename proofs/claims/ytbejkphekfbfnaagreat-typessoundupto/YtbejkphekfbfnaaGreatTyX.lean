/- The document's show whole, and its Text. -/
import Derived.Test.YtbejkphekfbfnaaGreatTyW
namespace Go.Proofs.YtbejkphekfbfnaaGreat
open Go.RowKit
attribute [local go_sem ↓] Go.wp_at_zero Go.wp_at_succ

theorem show_any : ∀ n, ShC n := by
  intro n
  induction n with
  | zero => intro k s m ks ao c S w hf hd; simp only [depN] at hd; omega
  | succ n hI =>
    intro k s m ks ao c S w hf hd hc hS hk
    have hM := Mem.of hf hd (by omega)
    have hL := Lst.of hk
    have ho := hf
    simp only [formT, Bool.and_eq_true] at ho
    simp only [cntN] at hc
    rcases own_cases ho.1 with rfl | rfl | rfl | rfl | ⟨rfl, h4⟩ | ⟨rfl, h5⟩ | ⟨rfl, h6⟩ | ⟨rfl, h7, h7'⟩
    · exact show_1 s m ks ao c w
    · exact show_2 s m ks ao c w
    · exact show_3 s m ks ao c w
    · exact show_8 s m ks ao c w
    · exact show_4 s m ks ao c w
    · obtain ⟨a, ha⟩ := one_of h5
      have e : txtN (n + 1) (.mk 5 s m ks) = [42] ++ txtN n a := by rw [ha]; simp [txtN, Tr.kind, Tr.kids, rowP]
      rw [e]
      exact show_5 hI s m ks ao c S w a ha hM (by omega) hS hL
    · obtain ⟨a, ha⟩ := one_of h6
      have e : txtN (n + 1) (.mk 6 s m ks) = [91, 93] ++ txtN n a := by rw [ha]; simp [txtN, Tr.kind, Tr.kids, rowP]
      rw [e]
      exact show_6 hI s m ks ao c S w a ha hM (by omega) hS hL
    · obtain ⟨j, rfl⟩ : ∃ j : Nat, m = j := ⟨m.toNat, by omega⟩
      have hj : j ≤ ks.length := by omega
      have e : txtN (n + 1) (.mk 7 s j ks) = [102, 117, 110, 99, 40] ++ (rowP (txtN n) (ks.take j) ++ ([41] ++ resP (txtN n) (ks.drop j))) := by simp [txtN, Tr.kind, Tr.kids, Tr.num]
      rw [e]
      have l1 : (ks.take j).length = j := by simp; omega
      have l2 : (ks.drop j).length = ks.length - j := by simp
      have hc4 : cntNL ks ≤ 500000 := by omega
      rcases hL.cut hj with ⟨hks, rfl⟩ | ⟨g, o, rfl, hck, hcc, L1, L2⟩ | ⟨g, o, rfl, hjl, hcl, L1⟩
      · subst hks
        exact show_7a hI s [] ao c S w rfl hM hc4 hS hL (Lst.nil _ _)
      · by_cases hjl : j < ks.length
        · exact show_7b hI s ks c S w g o j hjl hck hcc hM hc4 hS hL (by rw [l1]; exact L1) (by rw [l2]; exact L2)
        · exact show_7c hI s ks c S w g o j hj (by omega) (by omega) hM hc4 hS hL (by rw [l1]; exact L1)
      · exact show_7c hI s ks c S w g o j hj (by omega) (by omega) hM hc4 hS hL (by rw [l1]; exact L1)
set_option maxRecDepth 20000 in
set_option maxHeartbeats 1000000 in
theorem rtext_any (k : Int) (s : List UInt8) (m : Int) (ks : List Tr) (ao : Option Addr) (c : Nat) (w : World) (h : Ty w (.mk k s m ks) (.slice ao ks.length c)) :
    Calls Tryz.prog 16 #[.agg #[.int .i64 k, .string ⟨s.toArray⟩, .int .i64 m, .slice ao ks.length c]] w (OutS4 (textP (.mk k s m ks)) w) := by
  have HR : Hid (textP (.mk k s m ks) = if soundP (.mk k s m ks) then txtN 100 (.mk k s m ks) else []) := rfl
  have hX0 := Hxt.start (w := w) (c0 := .int .i64 k) (c1 := .string ⟨s.toArray⟩) (c2 := .int .i64 m) (c3 := .slice ao ks.length c)
  have cA := (h.later hX0.out).rsound
  simp only [tv, Tr.kind, Tr.text, Tr.num] at cA
  have HT := Lib.hid h
  clear h
  cases e1 : soundP (.mk k s m ks) with
  | false =>
    have HX : Hid (textP (.mk k s m ks) = []) := HR.out.trans (by rw [e1]; rfl)
    rw [e1] at cA
    clear e1
    go_enter Tryz.func16, Tryz.ntmps16
    go_wp2_with fail
    refine cA.mono ?_
    rintro e w2 ⟨rfl, hb2⟩
    have hX := hX0.next hb2
    clear cA hX0 hb2
    go_wp2
    go_ret
    exact OutS4.of HX ⟨rfl, hX.out⟩
  | true =>
    have HX : Hid (textP (.mk k s m ks) = txtN 100 (.mk k s m ks)) := HR.out.trans (by rw [e1]; rfl)
    have HS := Lib.hid e1
    rw [e1] at cA
    clear e1
    go_enter Tryz.func16, Tryz.ntmps16
    go_wp2_with fail
    refine cA.mono ?_
    rintro e w2 ⟨rfl, hb2⟩
    have hX := hX0.next hb2
    obtain ⟨x0, x1, x2, x3⟩ := hX.cells
    have hT2 := HT.out.later hX.out
    have hsp := HS.out
    simp only [soundP, Bool.and_eq_true, decide_eq_true_eq] at hsp
    have cW := show_any 100 k s m ks ao c _ w2 hsp.2 hsp.1.2 (by omega) (fun _ h => h) hT2.kt
    clear cA hX0 hb2 hT2 hsp
    go_wp2_with fail
    refine cW.mono ?_
    rintro e w3 ⟨rfl, hb3⟩
    have hX3 := hX.next hb3
    clear cW hb3
    go_wp2
    go_ret
    exact OutS4.of HX ⟨by simp, hX3.out⟩
end Go.Proofs.YtbejkphekfbfnaaGreat
