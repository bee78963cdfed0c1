/- The document's Known. -/
import Derived.Test.YtbejkphekfbfnaaGreatDcQ
namespace Go.Proofs.YtbejkphekfbfnaaGreat
open Go.RowKit
attribute [local go_sem ↓] Go.wp_at_zero Go.wp_at_succ

/-- Both say the same of a type. -/
theorem kn_same (ds : List Dc) (t : Tr) : (soundP t && kwP ds t) = (soundP t && knP ds t) := by
  cases hs : soundP t with
  | false => rfl
  | true =>
    have hf : formT t = true := by simp only [soundP, Bool.and_eq_true] at hs; exact hs.2
    unfold knP
    cases h8 : (t.kind == 8) with
    | true =>
      obtain ⟨k, s, m, ks⟩ := t
      have : k = 8 := by simpa [Tr.kind] using h8
      subst this
      simp [kwP]
    | false => rw [kw_all ds t hf h8]; rfl
set_option maxRecDepth 20000 in
set_option maxHeartbeats 2000000 in
theorem rknownT_any (ds : List Dc) (tb : Value) (k : Int) (s : List UInt8) (m : Int) (ks : List Tr) (ao : Option Addr) (c : Nat) (w : World) (hL : DL w ds tb) (h : Ty w (.mk k s m ks) (.slice ao ks.length c)) :
    Calls Tryz.prog 20 #[tb, .agg #[.int .i64 k, .string ⟨s.toArray⟩, .int .i64 m, .slice ao ks.length c]] w (OutB (pkP ds (.mk k s m ks)) w) := by
  have HR : Hid (pkP ds (.mk k s m ks) = ((errP ds == 0) && (soundP (.mk k s m ks) && knP ds (.mk k s m ks)))) := by rw [Hid, pkP, kn_same]
  obtain ⟨a0, c0, rfl⟩ := hL.slice
  have hX0 := Hb.start (w := w) (cs := #[.int .i64 k, .string ⟨s.toArray⟩, .int .i64 m, .slice ao ks.length c]) (T := 27)
  have cT := rtable_any ds _ _ (hL.later hX0.out)
  have HS : Hid (∀ W, Hb w #[.int .i64 k, .string ⟨s.toArray⟩, .int .i64 m, .slice ao ks.length c] 27 W → Calls Tryz.prog 38 #[.agg #[.int .i64 k, .string ⟨s.toArray⟩, .int .i64 m, .slice ao ks.length c]] W (OutB (soundP (.mk k s m ks)) W)) := fun W hh => rsound_any k s m ks ao c W (h.later hh.out)
  have HK : Hid (ds.length ≤ 1000000 → ∀ W, Hb w #[.int .i64 k, .string ⟨s.toArray⟩, .int .i64 m, .slice ao ks.length c] 27 W → Calls Tryz.prog 51 #[.slice a0 ds.length c0, .agg #[.int .i64 k, .string ⟨s.toArray⟩, .int .i64 m, .slice ao ks.length c]] W (OutB (knP ds (.mk k s m ks)) W)) := fun hn W hh => rknown_any ds hn _ k s m ks ao c W (hL.later hh.out) (h.later hh.out)
  have HN : Hid (errP ds = 0 → ds.length ≤ 1000000) := fun h => by
    rcases Nat.lt_or_ge 1024 ds.length with h1 | h1
    · rw [err_len h1] at h; cases h
    · omega
  clear h hL
  generalize soundP (.mk k s m ks) = b1 at *
  generalize knP ds (.mk k s m ks) = b2 at *
  go_enter Tryz.func20, Tryz.ntmps20
  go_wp2_with fail
  refine cT.mono ?_
  rintro e w1 ⟨rfl, hb1⟩
  have hX := hX0.next hb1
  have y0 := hX.cell 0 rfl
  have y1 := hX.cell 1 rfl
  have y2 := hX.cell 2 rfl
  have y3 := hX.cell 3 rfl
  generalize hr : errP ds = er at *
  clear cT hb1 hX0 hr
  cases he : (er == 0) with
  | false =>
    have HX : Hid (pkP ds (.mk k s m ks) = false) := HR.out.trans (by rw [he]; rfl)
    clear HR
    go_wp2
    go_ret
    exact OutB.of HX ⟨rfl, hX.out⟩
  | true =>
    have hn := HN.out (by simpa using he)
    have HR2 : Hid (pkP ds (.mk k s m ks) = (b1 && b2)) := HR.out.trans (by rw [he]; rfl)
    have cS := HS.out w1 hX
    clear HR HN
    cases b1 with
    | false =>
      have HX : Hid (pkP ds (.mk k s m ks) = false) := HR2.out
      go_wp2_with fail
      refine cS.mono ?_
      rintro e w2 ⟨rfl, hb2⟩
      have hX2 := hX.next hb2
      clear cS hb2 y0 y1 y2 y3
      go_wp2
      go_ret
      exact OutB.of HX ⟨rfl, hX2.out⟩
    | true =>
      have HX : Hid (pkP ds (.mk k s m ks) = b2) := HR2.out.trans (by simp)
      go_wp2_with fail
      refine cS.mono ?_
      rintro e w2 ⟨rfl, hb2⟩
      have hX2 := hX.next hb2
      have z0 := hX2.cell 0 rfl
      have z1 := hX2.cell 1 rfl
      have z2 := hX2.cell 2 rfl
      have z3 := hX2.cell 3 rfl
      have cK := HK.out hn w2 hX2
      clear cS hb2 y0 y1 y2 y3
      go_wp2_with fail
      refine cK.mono ?_
      rintro e w3 ⟨rfl, hb3⟩
      have hX3 := hX2.next hb3
      clear cK hb3
      go_wp2
      go_ret
      exact OutB.of HX ⟨by simp, hX3.out⟩
end Go.Proofs.YtbejkphekfbfnaaGreat
