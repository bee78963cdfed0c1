/- Sound, open and Known of any table. -/
import Derived.Test.YtbejkphekfbfnaaGreatDcH
namespace Go.Proofs.YtbejkphekfbfnaaGreat
open Go.RowKit Go.Maps
attribute [local go_sem ↓] Go.wp_at_zero Go.wp_at_succ

set_option maxRecDepth 100000 in
theorem psound_any (ds : List Dc) (sl : Value) (w : World) (hL : DL w ds sl) : Calls Tryz.prog 17 #[sl] w fun e w' => e = .returned (.int .i64 (errP ds)) ∧ Below w.heap.size w w' := by
  have cD := declare_any ds sl w hL
  obtain ⟨ao, cap, rfl⟩ := hL.slice
  clear hL
  go_enter Tryz.func17, Tryz.ntmps17
  go_wp2_with fail
  refine cD.mono ?_
  rintro e w1 ⟨hB, ⟨h0, b, rfl, hX⟩ | ⟨h0, rfl⟩⟩
  · have H0 := Lib.hid h0
    clear cD hX h0
    go_wp2
    go_ret
    exact ⟨by rw [H0.out]; rfl, hB⟩
  · generalize hr : errP ds = er at *
    have HR := Lib.hid hr
    clear cD h0 hr
    go_wp2
    go_ret
    exact ⟨by rw [HR.out]; rfl, hB⟩
def OpO (ds : List Dc) (bb : Bool) (w : World) (e : Ending) (w' : World) : Prop := Below w.heap.size w w' ∧ ((errP ds = 0 ∧ ∃ b, e = .returned (.tuple #[.map (some b), .bool bb]) ∧ DX w' b ds) ∨ (errP ds ≠ 0 ∧ e = .returned (.tuple #[.map none, .bool false])))
theorem open_any (ds : List Dc) (sl : Value) (ts : List Tr) (sls : List Value) (hsl : sls.length = ts.length) (w : World) (b cap : Nat) (hn : ts.length ≤ 100) (hL : DL w ds sl)
    (hc : ∀ (j : Nat) u, (cellsOf ts sls)[j]? = some u → w.cell? ⟨b, 0 + j, none⟩ = some u) (hT : ∀ (k : Nat) t sl, ts[k]? = some t → sls[k]? = some sl → Ty w t sl) (hb : b < w.heap.size) :
    Calls Tryz.prog 49 #[sl, .slice (some ⟨b, 0, none⟩) ts.length cap] w (OpO ds (ts.all soundP) w) := by
  have cD := declare_any ds sl w hL
  obtain ⟨ao, cp, rfl⟩ := hL.slice
  have HE : Hid (∀ W, Below w.heap.size w W → Calls Tryz.prog 87 #[.slice (some ⟨b, 0, none⟩) ts.length cap, .func (.func 36) #[] #[]] W (OutB (ts.all soundP) W)) := fun W hB =>
    everyT_any soundP 36 #[] enters_sound4 ts sls hsl W b 0 cap (by omega) (fun j u h => (hB.cell (p := ⟨b, 0 + j, none⟩) hb).trans (hc j u h)) (fun sl hm => by
      obtain ⟨k, hk⟩ := List.getElem?_of_mem hm
      obtain ⟨t, ht⟩ : ∃ t, ts[k]? = some t := ⟨_, List.getElem?_eq_getElem (by
        have : k < sls.length := by
          rcases Nat.lt_or_ge k sls.length with h | h
          · exact h
          · rw [List.getElem?_eq_none h] at hk; cases hk
        omega)⟩
      exact (hT k t sl ht hk).kt.slice) (fun k t sl w1 ht hs hb1 => by
      have := ((hT k t sl ht hs).later (hB.trans (hb1.mono hB.size))).sound
      rw [show (#[] : Array Value) ++ #[tv t sl] = #[tv t sl] from by simp]
      exact this)
  clear hc hT hL
  generalize ts.all soundP = bb at *
  go_enter Tryz.func49, Tryz.ntmps49
  go_wp2_with fail
  refine cD.mono ?_
  rintro e w1 ⟨hB, ⟨h0, r, rfl, hX⟩ | ⟨h0, rfl⟩⟩
  · have cE := HE.out w1 hB
    have HX := Lib.hid hX
    have H0 := Lib.hid h0
    clear cD hX h0
    go_wp2_with fail
    refine cE.mono ?_
    rintro e w2 ⟨rfl, hb2⟩
    have HB2 := Lib.hid (hB.trans (hb2.mono hB.size))
    have HX2 := Lib.hid (HX.out.later hb2)
    clear cE hb2 hB
    go_wp2
    exact bodyPost_ret (v := .tuple #[.map (some r), .bool bb]) (by simp [results, Tryz.results49, go_sem]) rfl ⟨HB2.out, .inl ⟨H0.out, r, rfl, HX2.out⟩⟩
  · have H0 := Lib.hid h0
    have HB := Lib.hid hB
    have f0 : (errP ds == 0) = false := by rw [beq_eq_false_iff_ne]; exact h0
    clear cD h0 hB
    generalize hr : errP ds = er at *
    have HR := Lib.hid hr
    clear hr
    go_wp2
    exact bodyPost_ret (v := .tuple #[.map none, .bool false]) (by simp [results, Tryz.results49, go_sem]) rfl ⟨HB.out, .inr ⟨by rw [HR.out]; exact H0.out, rfl⟩⟩
theorem cells_one (k : Int) (s : List UInt8) (m : Int) (ks : List Tr) (sl : Value) {W : World} {b : Nat} (hb : W.heap[b]? = some (.cells #[.int .i64 k, .string ⟨s.toArray⟩, .int .i64 m, sl] 27 (0, 0))) : ∀ (j : Nat) u, (cellsOf [.mk k s m ks] [sl])[j]? = some u → W.cell? ⟨b, 0 + j, none⟩ = some u := fun j u hj => by
  rw [Lib.cell_of_heap hb]
  match j, hj with
  | 0, hj => exact hj
  | 1, hj => exact hj
  | 2, hj => exact hj
  | 3, hj => exact hj
def pkP (ds : List Dc) (t : Tr) : Bool := (errP ds == 0) && (soundP t && kwP ds t)
set_option maxRecDepth 20000 in
set_option maxHeartbeats 2000000 in
theorem pknown_any (ds : List Dc) (tb : Value) (k : Int) (s : List UInt8) (m : Int) (ks : List Tr) (ao : Option Addr) (c : Nat) (w : World) (hL : DL w ds tb) (h : Ty w (.mk k s m ks) (.slice ao ks.length c)) :
    Calls Tryz.prog 19 #[tb, .agg #[.int .i64 k, .string ⟨s.toArray⟩, .int .i64 m, .slice ao ks.length c]] w (OutB (pkP ds (.mk k s m ks)) w) := by
  have HR : Hid (pkP ds (.mk k s m ks) = ((errP ds == 0) && (soundP (.mk k s m ks) && kwP ds (.mk k s m ks)))) := rfl
  obtain ⟨a0, c0, rfl⟩ := hL.slice
  have hX0 := Hb.start (w := w) (cs := #[.int .i64 k, .string ⟨s.toArray⟩, .int .i64 m, .slice ao ks.length c]) (T := 27)
  have hX1 := hX0.next ((Below.refl _ _).alloc (Nat.le_refl _) (.cells #[.int .i64 k, .string ⟨s.toArray⟩, .int .i64 m, .slice ao ks.length c] 27))
  have hO := hX1.out
  have hT1 := h.later hO
  have hbk : ((w.alloc (.cells #[.int .i64 k, .string ⟨s.toArray⟩, .int .i64 m, .slice ao ks.length c] 27)).alloc (.cells #[.int .i64 k, .string ⟨s.toArray⟩, .int .i64 m, .slice ao ks.length c] 27)).heap[w.heap.size + 1]? = some (.cells #[.int .i64 k, .string ⟨s.toArray⟩, .int .i64 m, .slice ao ks.length c] 27 (0, 0)) := by
    have := heap_alloc_new (w.alloc (.cells #[.int .i64 k, .string ⟨s.toArray⟩, .int .i64 m, .slice ao ks.length c] 27)) (.cells #[.int .i64 k, .string ⟨s.toArray⟩, .int .i64 m, .slice ao ks.length c] 27)
    simpa using this
  have cO := open_any ds _ [.mk k s m ks] [.slice ao ks.length c] rfl _ (w.heap.size + 1) 1 (by simp) (hL.later hO) (cells_one k s m ks _ hbk) (fun i t sl ht hs => by
      match i, ht, hs with
      | 0, ht, hs => cases ht; cases hs; exact hT1
      | i + 1, ht, hs => simp at ht) (lt_of_block hbk)
  rw [show [Tr.mk k s m ks].all soundP = soundP (.mk k s m ks) from by simp, show [Tr.mk k s m ks].length = 1 from rfl] at cO
  have HT := Lib.hid h
  clear hT1 hbk h hL hO
  have x0 := hX0.cell 0 rfl
  have x1 := hX0.cell 1 rfl
  have x2 := hX0.cell 2 rfl
  have x3 := hX0.cell 3 rfl
  go_enter Tryz.func19, Tryz.ntmps19
  go_wp2_with fail
  refine cO.mono ?_
  rintro e w1 ⟨hb1, ⟨h0, r, rfl, hD⟩ | ⟨h0, rfl⟩⟩
  · have hX := hX1.next hb1
    have HD := Lib.hid hD
    cases hs : soundP (.mk k s m ks) with
    | false =>
      have HX : Hid (pkP ds (.mk k s m ks) = false) := HR.out.trans (by rw [hs]; simp)
      clear cO hD hb1 h0 hs x0 x1 x2 x3
      go_wp2
      go_ret
      exact OutB.of HX ⟨rfl, hX.out⟩
    | true =>
      have hc : cntN (.mk k s m ks) ≤ 1000000 := by simp only [soundP, Bool.and_eq_true, decide_eq_true_eq] at hs; omega
      have HX : Hid (pkP ds (.mk k s m ks) = kwP ds (.mk k s m ks)) := HR.out.trans (by rw [hs, h0]; simp)
      have h1 := HT.out.later hX.out
      have cK := known_any ds r 1000000 k s m ks ao c w1 hc (Nat.le_refl _) h1.tx HD.out h1.kt
      have y0 := hX.cell 0 rfl
      have y1 := hX.cell 1 rfl
      have y2 := hX.cell 2 rfl
      have y3 := hX.cell 3 rfl
      clear cO hD hb1 h0 hs x0 x1 x2 x3 h1 hc
      go_wp2_with fail
      refine cK.mono ?_
      rintro e w2 ⟨rfl, hb2⟩
      have hX2 := hX.next hb2
      clear cK hb2
      go_wp2
      go_ret
      exact OutB.of HX ⟨by simp, hX2.out⟩
  · have hX := hX1.next hb1
    have HX : Hid (pkP ds (.mk k s m ks) = false) := HR.out.trans (by rw [show (errP ds == 0) = false from by rw [beq_eq_false_iff_ne]; exact h0]; rfl)
    clear cO hb1 h0 x0 x1 x2 x3
    go_wp2
    go_ret
    exact OutB.of HX ⟨rfl, hX.out⟩
end Go.Proofs.YtbejkphekfbfnaaGreat
