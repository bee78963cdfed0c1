/- Reach, with the place of what it returns. -/
import Derived.Test.YtlbildodjnjniaaEsG2
namespace Go.Proofs.Ytlbildodjnjniaa
open Go.RowKit

theorem Nw.mono {w0 w w' : World} {v : Value} {n : Nat} (h : Nw w w' v n) (hs : w0.heap.size ≤ w.heap.size) : Nw w0 w' v n := fun hn => by
  obtain ⟨b, c, arr, h1, h2, h3⟩ := h hn
  exact ⟨b, c, arr, h1, h2, Nat.le_trans hs h3⟩
theorem reach_ok2 {w : World} {vp vf : Value} {ps : List Pt} {fs : List Fl} (R : PtsAt w vp ps) (F : FlsAt w vf fs) (G : Good ps fs) (root : Int) (h1 : -1 ≤ root) (h2 : root < ps.length) : Calls Try.prog 8 #[vp, vf, .int .i64 root] w fun e w' => ∃ (l : Int → Int) (v : Value), e = .returned (.tuple #[v, .int .i64 0]) ∧ Hid (IntsAt w' v ((List.range ps.length).map fun (i : Nat) => l i) ∧ Lst fs 51200 root l ∧ Nw w w' v ps.length) ∧ Below w.heap.size w w' := by
  have hf := fault_any R F
  rw [fault_ok.2 G] at hf
  have HG := hide (fun (w2 : World) (h : Below w.heap.size w w2) => graphOf_any (R.below h) (F.below h) G)
  have HGG := hide G
  obtain ⟨ao, cap, rfl, _⟩ := R
  have hw := fun W : World => within_any (w := W) root ps.length
  have hr1 : (root != -1) = true → inB root ps.length = true := fun h => by
    unfold inB
    have h' : root ≠ -1 := by simpa using h
    rw [Bool.and_eq_true, decide_eq_true_eq, decide_eq_true_eq]; omega
  have hgl := G.pl
  have hfl := G.fl
  have HS := hide G.snd
  clear F G
  generalize hn : ps.length = n at *
  have bn : (n : Int) ≤ 512 := by omega
  clear hn
  go_enter Try.func8, Try.ntmps8
  go_wp2_with fail
  refine hf.mono ?_
  rintro e w2 ⟨rfl, hb2⟩
  have hg := HG.out w2 hb2
  have HB := hide hb2
  clear hb2 hf HG
  cases hc : (root != -1) with
  | true =>
    have hi := hr1 hc
    rw [hi] at hw
    clear hr1
    go_wp2_with (first
      | (go_at_call 18; refine (hw _).mono ?_; rintro e w3 ⟨rfl, rfl⟩)
      | (go_at_call 19; refine hg.mono ?_; rintro e w3 ⟨⟨vg, rfl, GR⟩, hb3⟩; have hrr := reach_any2 (B := 51200) GR HS.out hgl hfl h1 h2 (by omega) (by omega); have HB3 := hide (HB.out.trans (hb3.mono HB.out.size)); clear hb3 GR)
      | (go_at_call 20; refine hrr.mono ?_; rintro e w4 ⟨l, v, rfl, HI, HL, hb4, HNw⟩))
    go_ret2
    exact ⟨l, v, rfl, hide ⟨HI.out, HL.out, HNw.out.mono HB3.out.size⟩, HB3.out.trans (hb4.mono HB3.out.size)⟩
  | false =>
    clear hr1 hw
    go_wp2_with (first
      | (go_at_call 19; refine hg.mono ?_; rintro e w3 ⟨⟨vg, rfl, GR⟩, hb3⟩; have hrr := reach_any2 (B := 51200) GR HS.out hgl hfl h1 h2 (by omega) (by omega); have HB3 := hide (HB.out.trans (hb3.mono HB.out.size)); clear hb3 GR)
      | (go_at_call 20; refine hrr.mono ?_; rintro e w4 ⟨l, v, rfl, HI, HL, hb4, HNw⟩))
    go_ret2
    exact ⟨l, v, rfl, hide ⟨HI.out, HL.out, HNw.out.mono HB3.out.size⟩, HB3.out.trans (hb4.mono HB3.out.size)⟩
end Go.Proofs.Ytlbildodjnjniaa
