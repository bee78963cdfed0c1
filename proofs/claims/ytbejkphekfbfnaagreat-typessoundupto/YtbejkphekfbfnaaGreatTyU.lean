/- The program's write, writeList, writeResults. -/
import Derived.Test.YtbejkphekfbfnaaGreatTyT
namespace Go.Proofs.YtbejkphekfbfnaaGreat
open Go.RowKit
attribute [local go_sem ↓] Go.wp_at_zero Go.wp_at_succ

/-- A list that lies, cut in two. -/
theorem Lst.cut {w : World} {S : Nat → Prop} {ts : List Tr} {ao : Option Addr} {c k : Nat} (h : Lst w S ts (.slice ao ts.length c)) (hk : k ≤ ts.length) :
    (ts = [] ∧ k = 0) ∨ (∃ g o, ao = some ⟨g, o, none⟩ ∧ k < c ∧ ts.length ≤ c ∧ Lst w S (ts.take k) (.slice (some ⟨g, o, none⟩) k c) ∧ Lst w S (ts.drop k) (.slice (some ⟨g, o + k * 4, none⟩) (ts.length - k) (c - k))) ∨
    (∃ g o, ao = some ⟨g, o, none⟩ ∧ k = ts.length ∧ c = ts.length ∧ Lst w S (ts.take k) (.slice (some ⟨g, o, none⟩) k c)) := by
  obtain ⟨sls, hr, hkl⟩ := h
  rcases hr with ⟨e0, ao', cap, e⟩ | ⟨gb, o, cap, e, hcp, hg, hc⟩
  · exact .inl ⟨List.eq_nil_of_length_eq_zero e0, by omega⟩
  · injection e with e1 e2 e3
    subst e1 e3
    have hl1 : (ts.take k).length = k := by simp [hk]
    have hl2 : (ts.drop k).length = ts.length - k := by simp
    obtain ⟨L1, L2⟩ := Lst.parts (w := w) (ts := ts.take k) (us := ts.drop k) hg (by rwa [List.take_append_drop]) (by rwa [List.take_append_drop]) c (c - k) (by omega) (by omega)
    rw [hl1] at L1 L2
    rw [hl2] at L2
    by_cases hck : k < c
    · exact .inr (.inl ⟨gb, o, rfl, hck, hcp, L1, L2⟩)
    · exact .inr (.inr ⟨gb, o, rfl, by omega, by omega, L1⟩)

/-- What writing leaves. -/
def OutX (B b : Nat) (w : World) (l : List UInt8) (e : Ending) (w' : World) : Prop := e = .returned (.tuple #[]) ∧ Fb B b w w' ∧ Bd B b l w'
theorem OutX.of {B b : Nat} {w : World} {l l' : List UInt8} {e : Ending} {w' : World} (hr : Hid (l = l')) (o : OutX B b w l' e w') : OutX B b w l e w' := by
  have := hr.out; subst this; exact o
/-- A node's box beside the builder. -/
structure Wt (B b m : Nat) (c0 c1 c2 c3 : Value) (l : List UInt8) (w W : World) : Prop where
  fb : Fb B b w W
  bd : Bd B b l W
  bx : W.heap[m]? = some (.cells #[c0, c1, c2, c3] 27 (0, 0))
  ne : m ≠ b
  le : B ≤ W.heap.size
section
variable {B b m : Nat} {c0 c1 c2 c3 : Value} {l l' : List UInt8} {w W W' : World}
theorem Wt.start (hB : B ≤ w.heap.size) (h : Bd B b l w) : Wt B b w.heap.size c0 c1 c2 c3 l w (w.alloc (.cells #[c0, c1, c2, c3] 27)) :=
  ⟨Fb.of_below hB ((Below.refl _ _).alloc (Nat.le_refl _) _), h.alloc _, heap_alloc_new w _, by have := h.lt; omega, by simp; omega⟩
theorem Wt.step (h : Wt B b m c0 c1 c2 c3 l w W) (hf : Fb B b W W') (hb : Bd B b l' W') : Wt B b m c0 c1 c2 c3 l' w W' :=
  ⟨h.fb.trans hf, hb, hf.box h.ne h.bx, h.ne, Nat.le_trans h.le hf.bel.size⟩
theorem Wt.cells (h : Wt B b m c0 c1 c2 c3 l w W) : W.cell? ⟨m, 0, none⟩ = some c0 ∧ W.cell? ⟨m, 1, none⟩ = some c1 ∧ W.cell? ⟨m, 2, none⟩ = some c2 ∧ W.cell? ⟨m, 3, none⟩ = some c3 := by
  refine ⟨?_, ?_, ?_, ?_⟩ <;> simp [World.cell?, h.bx]
end
theorem kt_below {B : Nat} {w W : World} {t : Tr} {sl : Value} (h : KT w (· < B) t sl) (hb : Below B w W) : KT W (· < B) t sl := h.fr (fun b hb' => hb.block b hb') (fun _ h => h)
theorem lst_below4 {B : Nat} {w W : World} {ts : List Tr} {sl : Value} (h : Lst w (· < B) ts sl) (hb : Below B w W) : Lst W (· < B) ts sl := h.fr (fun b hb' => hb.block b hb') (fun _ h => h)
/-- What write owes of types so deep. -/
def WrC (n : Nat) : Prop := ∀ (k : Int) (s : List UInt8) (m : Int) (ks : List Tr) (ao : Option Addr) (c B b : Nat) (l : List UInt8) (w : World), formT (.mk k s m ks) = true → depN (.mk k s m ks) ≤ n → ks.length ≤ 1000000 → l.length + 100 * cntN (.mk k s m ks) ≤ 50000000 → B ≤ w.heap.size → KT w (· < B) (.mk k s m ks) (.slice ao ks.length c) → Bd B b l w →
    Calls Tryz.prog 39 #[.pointer (some ⟨b, 0, none⟩), .agg #[.int .i64 k, .string ⟨s.toArray⟩, .int .i64 m, .slice ao ks.length c]] w (OutX B b w (l ++ txtN n (.mk k s m ks)))
/-- What is asked of the members of a list. -/
structure Mem (n : Nat) (ts : List Tr) : Prop where
  form : ∀ t ∈ ts, formT t = true
  dep : ∀ t ∈ ts, depN t ≤ n
  small : ∀ t ∈ ts, t.kids.length ≤ 1000000
  len : ts.length ≤ 1000000

theorem Mem.take {n : Nat} {ts : List Tr} (h : Mem n ts) (j : Nat) : Mem n (ts.take j) :=
  ⟨fun t ht => h.form t (List.mem_of_mem_take ht), fun t ht => h.dep t (List.mem_of_mem_take ht), fun t ht => h.small t (List.mem_of_mem_take ht), by have := h.len; simp; omega⟩
theorem Mem.drop {n : Nat} {ts : List Tr} (h : Mem n ts) (j : Nat) : Mem n (ts.drop j) :=
  ⟨fun t ht => h.form t (List.mem_of_mem_drop ht), fun t ht => h.dep t (List.mem_of_mem_drop ht), fun t ht => h.small t (List.mem_of_mem_drop ht), by have := h.len; simp; omega⟩
set_option maxRecDepth 20000 in
set_option maxHeartbeats 4000000 in
theorem writeList_any {n : Nat} (hI : WrC n) (ts : List Tr) (ao : Option Addr) (c B b : Nat) (l : List UInt8) (w : World) (hM : Mem n ts) (hl : l.length + 3 + 100 * cntNL ts ≤ 50000000) (hB : B ≤ w.heap.size) (hL : Lst w (· < B) ts (.slice ao ts.length c)) (hb : Bd B b l w) :
    Calls Tryz.prog 76 #[.pointer (some ⟨b, 0, none⟩), .slice ao ts.length c] w (OutX B b w (l ++ ([40] ++ (rowP (txtN n) ts ++ [41])))) := by
  have HI := Lib.hid hI
  have HM := Lib.hid hM
  have hlen := hM.len
  have HN : Hid (∀ j, (rowP (txtN n) (ts.take j)).length ≤ 80 * cntNL (ts.take j)) := fun j => rowP_len (f := txtN n) (ts := ts.take j) fun t ht => txtN_len n t (hM.form t (List.mem_of_mem_take ht))
  have cW := ws_any B b l [40] w hb (by simp; omega) hB
  have HL := Lib.hid hL
  clear hI hM hL hb
  go_enter Tryz.func76, Tryz.ntmps76
  go_wp2_with fail
  refine cW.mono ?_
  rintro e w1 ⟨rfl, hf1, hb1⟩
  have HF1 := Lib.hid hf1
  have HB1 := Lib.hid hb1
  have hz1 := hf1.bel.size
  clear cW hf1 hb1
  go_wp2_with fail
  go_loopw [10] (fun v wr => ∃ j : Nat, j ≤ ts.length ∧ v = .int .i64 j ∧ B ≤ wr.heap.size ∧ Hid (Fb B b w wr) ∧ Hid (Bd B b (l ++ ([40] ++ rowP (txtN n) (ts.take j))) wr)) (fun v _ => ts.length - (intOf v).toNat)
  case atStart => exact ⟨0, Nat.zero_le _, rfl, by omega, HF1, by simpa [Hid, rowP] using HB1.out⟩
  case round =>
    obtain ⟨j, hj, rfl, hz, HF, HB⟩ := hrel
    clear HF1 HB1
    by_cases hlt : j < ts.length
    · obtain ⟨a, ha⟩ : ∃ t, ts[j]? = some t := ⟨_, List.getElem?_eq_getElem hlt⟩
      obtain ⟨g, o, a0, n0, q0, hao, y0, y1, y2, y3, hg, hka⟩ := HL.out.kid ha (fun b hb => Nat.lt_of_lt_of_le hb hB)
      have hgB : g < B := by
        obtain ⟨sls, hr, _⟩ := HL.out
        rcases hr with ⟨h0, _⟩ | ⟨g', o', c', e, _, hgg, _⟩
        · omega
        · rw [hao] at e; cases e; exact hgg
      subst hao
      have bel := HF.out.bel
      have z0 := (bel.cell (p := ⟨g, o + j * 4, none⟩) hgB).trans y0
      have z1 := (bel.cell (p := ⟨g, o + j * 4 + 1, none⟩) hgB).trans y1
      have z2 := (bel.cell (p := ⟨g, o + j * 4 + 2, none⟩) hgB).trans y2
      have z3 := (bel.cell (p := ⟨g, o + j * 4 + 3, none⟩) hgB).trans y3
      have hgr : g < wr.heap.size := by omega
      have hm := List.mem_of_getElem? ha
      have hfa := HM.out.form a hm
      have hda := HM.out.dep a hm
      have hsa := HM.out.small a hm
      have hca : cntNL (ts.take j) + cntN a ≤ cntNL ts := by
        have h1 := cut_cnt ts (j + 1)
        rw [List.take_add_one, ha, Option.toList_some, cntNL_append] at h1
        simp only [cntNL] at h1
        omega
      have HK := Lib.hid hka
      have HX := Lib.hid (rowP_take (txtN n) ha)
      have hrl := HN.out j
      obtain ⟨ak, av, am, aks⟩ := a
      obtain ⟨_, _, e⟩ := (Lst.of hka).slice
      injection e with e4 e5 e7
      clear e4 e7
      subst e5
      change aks.length ≤ 1000000 at hsa
      simp only [Tr.kind, Tr.text, Tr.num] at z0 z1 z2
      have S0 := Lib.hid (Wt.start (c0 := .int .i64 ak) (c1 := .string ⟨av.toArray⟩) (c2 := .int .i64 am) (c3 := .slice a0 aks.length q0) hz HB.out)
      clear ha hka hm y0 y1 y2 y3 bel
      by_cases j0 : j = 0
      · subst j0
        simp only [Nat.zero_mul, Nat.add_zero] at z0 z1 z2 z3
        have cC := HI.out ak av am aks a0 q0 B b _ _ hfa hda hsa (by simp [rowP]; omega) S0.out.le (kt_below HK.out (HF.out.bel.trans S0.out.fb.bel)) S0.out.bd
        go_wp2_with fail
        refine cC.mono ?_
        rintro e w2 ⟨rfl, hf2, hb2⟩
        have S2 := Lib.hid (S0.out.step hf2 hb2)
        clear cC hf2 hb2
        go_wp2
        go_roundw
        case rel => exact ⟨1, by omega, by go_num, S2.out.le, HF.out.trans S2.out.fb, by have := S2.out.bd; rw [Hid, HX.out]; simpa [rowP] using this⟩
        case measure => simp [intOf]; omega
      · have jp : decide (0 < (j : Int)) = true := by simp; omega
        have jp2 : 0 < j := by omega
        have cW := ws_any B b _ [44, 32] _ S0.out.bd (by simp; omega) S0.out.le
        go_wp2_with fail
        refine cW.mono ?_
        rintro e w2 ⟨rfl, hf2, hb2⟩
        have S2 := Lib.hid (S0.out.step hf2 hb2)
        obtain ⟨x0, x1, x2, x3⟩ := S2.out.cells
        clear cW hf2 hb2
        have cC := HI.out ak av am aks a0 q0 B b _ _ hfa hda hsa (by simp; omega) S2.out.le (kt_below HK.out (HF.out.bel.trans S2.out.fb.bel)) S2.out.bd
        go_wp2_with fail
        refine cC.mono ?_
        rintro e w3 ⟨rfl, hf3, hb3⟩
        have S3 := Lib.hid (S2.out.step hf3 hb3)
        clear cC hf3 hb3
        go_wp2
        go_roundw
        case rel => exact ⟨j + 1, by omega, by go_num, S3.out.le, HF.out.trans S3.out.fb, by have := S3.out.bd; rw [Hid, HX.out, if_neg j0]; simpa using this⟩
        case measure => simp [intOf]; omega
    · have et : ts.take j = ts := List.take_of_length_le (by omega)
      have hrl := HN.out j
      rw [et] at HB hrl
      have cW := ws_any B b _ [41] wr HB.out (by simp; omega) hz
      go_wp2_with fail
      refine cW.mono ?_
      rintro e w2 ⟨rfl, hf2, hb2⟩
      have HF2 := Lib.hid hf2
      have HB2 := Lib.hid hb2
      clear cW hf2 hb2
      go_wp2
      go_end0
      exact ⟨rfl, HF.out.trans HF2.out, by simpa using HB2.out⟩

set_option maxRecDepth 20000 in
set_option maxHeartbeats 4000000 in
theorem writeResults_any {n : Nat} (hI : WrC n) (ts : List Tr) (ao : Option Addr) (c B b : Nat) (l : List UInt8) (w : World) (hM : Mem n ts) (hl : l.length + 5 + 100 * cntNL ts ≤ 50000000) (hB : B ≤ w.heap.size) (hL : Lst w (· < B) ts (.slice ao ts.length c)) (hb : Bd B b l w) :
    Calls Tryz.prog 77 #[.pointer (some ⟨b, 0, none⟩), .slice ao ts.length c] w (OutX B b w (l ++ resP (txtN n) ts)) := by
  have HR : Hid (resP (txtN n) ts = if ts.length = 0 then [] else if ts.length = 1 then [32] ++ rowP (txtN n) ts else [32, 40] ++ (rowP (txtN n) ts ++ [41])) := rfl
  by_cases h0 : ts.length = 0
  · have HX : Hid (l ++ resP (txtN n) ts = l) := by rw [Hid, HR.out, if_pos h0]; simp
    have f0 : ((ts.length : Int) == 0) = true := by rw [beq_iff_eq]; omega
    have HB := Lib.hid hb
    go_enter Tryz.func77, Tryz.ntmps77
    go_wp2
    go_end0
    exact OutX.of HX ⟨rfl, Fb.refl _ _ _, HB.out⟩
  have f0 : ((ts.length : Int) == 0) = false := by rw [beq_eq_false_iff_ne]; omega
  have cW := ws_any B b l [32] w hb (by simp; omega) hB
  have HI := Lib.hid hI
  have HM := Lib.hid hM
  have HL := Lib.hid hL
  by_cases h1 : ts.length = 1
  · have HX : Hid (l ++ resP (txtN n) ts = l ++ ([32] ++ rowP (txtN n) ts)) := by rw [Hid, HR.out, if_neg h0, if_pos h1]
    have f1 : ((ts.length : Int) == 1) = true := by rw [beq_iff_eq]; omega
    obtain ⟨a, g, o, a0, n0, q0, ets, hao, y0, y1, y2, y3, hg, hka⟩ := hL.kid1 h1 (fun b hb => Nat.lt_of_lt_of_le hb hB)
    have hgB : g < B := by
      obtain ⟨sls, hr, _⟩ := HL.out
      rcases hr with ⟨h0, _⟩ | ⟨g', o', c', e, _, hgg, _⟩
      · omega
      · rw [hao] at e; cases e; exact hgg
    subst hao ets
    have hm : a ∈ [a] := by simp
    have hfa := hM.form a hm
    have hda := hM.dep a hm
    have hsa := hM.small a hm
    have HK := Lib.hid hka
    simp only [cntNL] at hl
    obtain ⟨ak, av, am, aks⟩ := a
    obtain ⟨_, _, e⟩ := (Lst.of hka).slice
    injection e with e4 e5 e7
    clear e4 e7
    subst e5
    change aks.length ≤ 1000000 at hsa
    clear hI hM hL hb hm h0 h1 hka HL
    go_enter Tryz.func77, Tryz.ntmps77
    go_wp2_with fail
    refine cW.mono ?_
    rintro e w1 ⟨rfl, hf1, hb1⟩
    have bel := hf1.bel
    have z0 := (bel.cell (p := ⟨g, o + 0, none⟩) hgB).trans y0
    have z1 := (bel.cell (p := ⟨g, o + 1, none⟩) hgB).trans y1
    have z2 := (bel.cell (p := ⟨g, o + 2, none⟩) hgB).trans y2
    have z3 := (bel.cell (p := ⟨g, o + 3, none⟩) hgB).trans y3
    simp only [Tr.kind, Tr.text, Tr.num, Nat.add_zero] at z0 z1 z2
    have hz := bel.size
    have hgr : g < w1.heap.size := by omega
    have HF1 := Lib.hid hf1
    have cC := HI.out ak av am aks a0 q0 B b _ w1 hfa hda hsa (by simp; omega) (by omega) (kt_below HK.out bel) hb1
    clear cW hf1 hb1 y0 y1 y2 y3 bel
    go_wp2_with fail
    refine cC.mono ?_
    rintro e w2 ⟨rfl, hf2, hb2⟩
    have HF2 := Lib.hid hf2
    have HB2 := Lib.hid hb2
    clear cC hf2 hb2
    go_wp2
    go_end0
    exact OutX.of HX ⟨rfl, HF1.out.trans HF2.out, by simpa [rowP] using HB2.out⟩
  · have HX : Hid (l ++ resP (txtN n) ts = l ++ ([32, 40] ++ (rowP (txtN n) ts ++ [41]))) := by rw [Hid, HR.out, if_neg h0, if_neg h1]
    have f1 : ((ts.length : Int) == 1) = false := by rw [beq_eq_false_iff_ne]; omega
    clear hI hM hL hb
    go_enter Tryz.func77, Tryz.ntmps77
    go_wp2_with fail
    refine cW.mono ?_
    rintro e w1 ⟨rfl, hf1, hb1⟩
    have hz := hf1.bel.size
    have cL := writeList_any HI.out ts ao c B b _ w1 HM.out (by simp; omega) (by omega) (lst_below4 HL.out hf1.bel) hb1
    have HF1 := Lib.hid hf1
    clear cW hf1 hb1
    go_wp2_with fail
    refine cL.mono ?_
    rintro e w2 ⟨rfl, hf2, hb2⟩
    have HF2 := Lib.hid hf2
    have HB2 := Lib.hid hb2
    clear cL hf2 hb2
    go_wp2
    go_end0
    exact OutX.of HX ⟨rfl, HF1.out.trans HF2.out, by simpa using HB2.out⟩

section
variable {n : Nat} (hI : WrC n) (s : List UInt8) (m : Int) (ks : List Tr) (ao : Option Addr) (c B b : Nat) (l : List UInt8) (w : World)
theorem write_1 (hl : l.length ≤ 50000000) (hB : B ≤ w.heap.size) (hb : Bd B b l w) : Calls Tryz.prog 39 #[.pointer (some ⟨b, 0, none⟩), .agg #[.int .i64 1, .string ⟨s.toArray⟩, .int .i64 m, .slice ao ks.length c]] w (OutX B b w (l ++ [105, 110, 116])) := by
    have S0 := Lib.hid (Wt.start (c0 := .int .i64 1) (c1 := .string ⟨s.toArray⟩) (c2 := .int .i64 m) (c3 := .slice ao ks.length c) hB hb)
    have cW := ws_any B b l [105, 110, 116] _ S0.out.bd (by simp; omega) S0.out.le
    clear hb
    go_enter Tryz.func39, Tryz.ntmps39
    go_wp2_with fail
    refine cW.mono ?_
    rintro e w1 ⟨rfl, hf1, hb1⟩
    have S1 := Lib.hid (S0.out.step hf1 hb1)
    obtain ⟨x0, x1, x2, x3⟩ := S1.out.cells
    clear cW hf1 hb1
    go_wp2
    go_end0
    exact ⟨rfl, S1.out.fb, S1.out.bd⟩
theorem write_2 (hl : l.length ≤ 50000000) (hB : B ≤ w.heap.size) (hb : Bd B b l w) : Calls Tryz.prog 39 #[.pointer (some ⟨b, 0, none⟩), .agg #[.int .i64 2, .string ⟨s.toArray⟩, .int .i64 m, .slice ao ks.length c]] w (OutX B b w (l ++ [98, 111, 111, 108])) := by
    have S0 := Lib.hid (Wt.start (c0 := .int .i64 2) (c1 := .string ⟨s.toArray⟩) (c2 := .int .i64 m) (c3 := .slice ao ks.length c) hB hb)
    have cW := ws_any B b l [98, 111, 111, 108] _ S0.out.bd (by simp; omega) S0.out.le
    clear hb
    go_enter Tryz.func39, Tryz.ntmps39
    go_wp2_with fail
    refine cW.mono ?_
    rintro e w1 ⟨rfl, hf1, hb1⟩
    have S1 := Lib.hid (S0.out.step hf1 hb1)
    obtain ⟨x0, x1, x2, x3⟩ := S1.out.cells
    clear cW hf1 hb1
    go_wp2
    go_end0
    exact ⟨rfl, S1.out.fb, S1.out.bd⟩
theorem write_3 (hl : l.length ≤ 50000000) (hB : B ≤ w.heap.size) (hb : Bd B b l w) : Calls Tryz.prog 39 #[.pointer (some ⟨b, 0, none⟩), .agg #[.int .i64 3, .string ⟨s.toArray⟩, .int .i64 m, .slice ao ks.length c]] w (OutX B b w (l ++ [115, 116, 114, 105, 110, 103])) := by
    have S0 := Lib.hid (Wt.start (c0 := .int .i64 3) (c1 := .string ⟨s.toArray⟩) (c2 := .int .i64 m) (c3 := .slice ao ks.length c) hB hb)
    have cW := ws_any B b l [115, 116, 114, 105, 110, 103] _ S0.out.bd (by simp; omega) S0.out.le
    clear hb
    go_enter Tryz.func39, Tryz.ntmps39
    go_wp2_with fail
    refine cW.mono ?_
    rintro e w1 ⟨rfl, hf1, hb1⟩
    have S1 := Lib.hid (S0.out.step hf1 hb1)
    obtain ⟨x0, x1, x2, x3⟩ := S1.out.cells
    clear cW hf1 hb1
    go_wp2
    go_end0
    exact ⟨rfl, S1.out.fb, S1.out.bd⟩
theorem write_8 (hl : l.length ≤ 50000000) (hB : B ≤ w.heap.size) (hb : Bd B b l w) : Calls Tryz.prog 39 #[.pointer (some ⟨b, 0, none⟩), .agg #[.int .i64 8, .string ⟨s.toArray⟩, .int .i64 m, .slice ao ks.length c]] w (OutX B b w (l ++ [110, 105, 108])) := by
    have S0 := Lib.hid (Wt.start (c0 := .int .i64 8) (c1 := .string ⟨s.toArray⟩) (c2 := .int .i64 m) (c3 := .slice ao ks.length c) hB hb)
    have cW := ws_any B b l [110, 105, 108] _ S0.out.bd (by simp; omega) S0.out.le
    clear hb
    go_enter Tryz.func39, Tryz.ntmps39
    go_wp2_with fail
    refine cW.mono ?_
    rintro e w1 ⟨rfl, hf1, hb1⟩
    have S1 := Lib.hid (S0.out.step hf1 hb1)
    obtain ⟨x0, x1, x2, x3⟩ := S1.out.cells
    clear cW hf1 hb1
    go_wp2
    go_end0
    exact ⟨rfl, S1.out.fb, S1.out.bd⟩
theorem write_4 (hs : s.length ≤ 1000) (hl : l.length ≤ 50000000) (hB : B ≤ w.heap.size) (hb : Bd B b l w) : Calls Tryz.prog 39 #[.pointer (some ⟨b, 0, none⟩), .agg #[.int .i64 4, .string ⟨s.toArray⟩, .int .i64 m, .slice ao ks.length c]] w (OutX B b w (l ++ s)) := by
    have S0 := Lib.hid (Wt.start (c0 := .int .i64 4) (c1 := .string ⟨s.toArray⟩) (c2 := .int .i64 m) (c3 := .slice ao ks.length c) hB hb)
    have cW := ws_any B b l s _ S0.out.bd (by omega) S0.out.le
    clear hb
    go_enter Tryz.func39, Tryz.ntmps39
    go_wp2_with fail
    refine cW.mono ?_
    rintro e w1 ⟨rfl, hf1, hb1⟩
    have S1 := Lib.hid (S0.out.step hf1 hb1)
    obtain ⟨x0, x1, x2, x3⟩ := S1.out.cells
    clear cW hf1 hb1
    go_wp2
    go_end0
    exact ⟨rfl, S1.out.fb, S1.out.bd⟩
include hI
set_option maxHeartbeats 1000000 in
theorem write_5 (a : Tr) (hk1 : ks = [a]) (hM : Mem n ks) (hl : l.length + 2 + 100 * cntNL ks ≤ 50000000) (hB : B ≤ w.heap.size) (hL : Lst w (· < B) ks (.slice ao ks.length c)) (hb : Bd B b l w) : Calls Tryz.prog 39 #[.pointer (some ⟨b, 0, none⟩), .agg #[.int .i64 5, .string ⟨s.toArray⟩, .int .i64 m, .slice ao ks.length c]] w (OutX B b w (l ++ ([42] ++ txtN n a))) := by
    have HI := Lib.hid hI
    obtain ⟨a', g, o, a0, n0, q0, ets, hao, y0, y1, y2, y3, hg, hka⟩ := hL.kid1 (by rw [hk1]; rfl) (fun b hb => Nat.lt_of_lt_of_le hb hB)
    have hgB : g < B := by
      obtain ⟨sls, hr, _⟩ := hL
      rcases hr with ⟨h0, _⟩ | ⟨g', o', c', e, _, hgg, _⟩
      · rw [hk1] at h0; simp at h0
      · rw [hao] at e; cases e; exact hgg
    rw [hk1] at ets
    cases ets
    subst hk1 hao
    have hm : a ∈ [a] := by simp
    have hfa := hM.form a hm
    have hda := hM.dep a hm
    have hsa := hM.small a hm
    have HK := Lib.hid hka
    simp only [cntNL] at hl
    obtain ⟨ak, av, am, aks⟩ := a
    obtain ⟨_, _, e⟩ := (Lst.of hka).slice
    injection e with e4 e5 e7
    clear e4 e7
    subst e5
    change aks.length ≤ 1000000 at hsa
    clear hI hM hL hm hka
    have S0 := Lib.hid (Wt.start (c0 := .int .i64 5) (c1 := .string ⟨s.toArray⟩) (c2 := .int .i64 m) (c3 := .slice (some ⟨g, o, none⟩) [Tr.mk ak av am aks].length c) hB hb)
    have cW := ws_any B b l [42] _ S0.out.bd (by simp; omega) S0.out.le
    clear hb
    simp only [List.length_cons, List.length_nil, Nat.zero_add] at *
    go_enter Tryz.func39, Tryz.ntmps39
    go_wp2_with fail
    refine cW.mono ?_
    rintro e w1 ⟨rfl, hf1, hb1⟩
    have S1 := Lib.hid (S0.out.step hf1 hb1)
    obtain ⟨x0, x1, x2, x3⟩ := S1.out.cells
    clear cW hf1 hb1
    have bel := S1.out.fb.bel
    have z0 := (bel.cell (p := ⟨g, o + 0, none⟩) hgB).trans y0
    have z1 := (bel.cell (p := ⟨g, o + 1, none⟩) hgB).trans y1
    have z2 := (bel.cell (p := ⟨g, o + 2, none⟩) hgB).trans y2
    have z3 := (bel.cell (p := ⟨g, o + 3, none⟩) hgB).trans y3
    simp only [Tr.kind, Tr.text, Tr.num, Nat.add_zero] at z0 z1 z2
    have hz := bel.size
    have hgr : g < w1.heap.size := by omega
    have cC := HI.out ak av am aks a0 q0 B b _ w1 hfa hda hsa (by simp; omega) S1.out.le (kt_below HK.out bel) S1.out.bd
    clear y0 y1 y2 y3 bel
    go_wp2_with fail
    refine cC.mono ?_
    rintro e w2 ⟨rfl, hf2, hb2⟩
    have S2 := Lib.hid (S1.out.step hf2 hb2)
    clear cC hf2 hb2
    go_wp2
    go_end0
    exact ⟨rfl, S2.out.fb, by simpa using S2.out.bd⟩
set_option maxHeartbeats 1000000 in
theorem write_6 (a : Tr) (hk1 : ks = [a]) (hM : Mem n ks) (hl : l.length + 2 + 100 * cntNL ks ≤ 50000000) (hB : B ≤ w.heap.size) (hL : Lst w (· < B) ks (.slice ao ks.length c)) (hb : Bd B b l w) : Calls Tryz.prog 39 #[.pointer (some ⟨b, 0, none⟩), .agg #[.int .i64 6, .string ⟨s.toArray⟩, .int .i64 m, .slice ao ks.length c]] w (OutX B b w (l ++ ([91, 93] ++ txtN n a))) := by
    have HI := Lib.hid hI
    obtain ⟨a', g, o, a0, n0, q0, ets, hao, y0, y1, y2, y3, hg, hka⟩ := hL.kid1 (by rw [hk1]; rfl) (fun b hb => Nat.lt_of_lt_of_le hb hB)
    have hgB : g < B := by
      obtain ⟨sls, hr, _⟩ := hL
      rcases hr with ⟨h0, _⟩ | ⟨g', o', c', e, _, hgg, _⟩
      · rw [hk1] at h0; simp at h0
      · rw [hao] at e; cases e; exact hgg
    rw [hk1] at ets
    cases ets
    subst hk1 hao
    have hm : a ∈ [a] := by simp
    have hfa := hM.form a hm
    have hda := hM.dep a hm
    have hsa := hM.small a hm
    have HK := Lib.hid hka
    simp only [cntNL] at hl
    obtain ⟨ak, av, am, aks⟩ := a
    obtain ⟨_, _, e⟩ := (Lst.of hka).slice
    injection e with e4 e5 e7
    clear e4 e7
    subst e5
    change aks.length ≤ 1000000 at hsa
    clear hI hM hL hm hka
    have S0 := Lib.hid (Wt.start (c0 := .int .i64 6) (c1 := .string ⟨s.toArray⟩) (c2 := .int .i64 m) (c3 := .slice (some ⟨g, o, none⟩) [Tr.mk ak av am aks].length c) hB hb)
    have cW := ws_any B b l [91, 93] _ S0.out.bd (by simp; omega) S0.out.le
    clear hb
    simp only [List.length_cons, List.length_nil, Nat.zero_add] at *
    go_enter Tryz.func39, Tryz.ntmps39
    go_wp2_with fail
    refine cW.mono ?_
    rintro e w1 ⟨rfl, hf1, hb1⟩
    have S1 := Lib.hid (S0.out.step hf1 hb1)
    obtain ⟨x0, x1, x2, x3⟩ := S1.out.cells
    clear cW hf1 hb1
    have bel := S1.out.fb.bel
    have z0 := (bel.cell (p := ⟨g, o + 0, none⟩) hgB).trans y0
    have z1 := (bel.cell (p := ⟨g, o + 1, none⟩) hgB).trans y1
    have z2 := (bel.cell (p := ⟨g, o + 2, none⟩) hgB).trans y2
    have z3 := (bel.cell (p := ⟨g, o + 3, none⟩) hgB).trans y3
    simp only [Tr.kind, Tr.text, Tr.num, Nat.add_zero] at z0 z1 z2
    have hz := bel.size
    have hgr : g < w1.heap.size := by omega
    have cC := HI.out ak av am aks a0 q0 B b _ w1 hfa hda hsa (by simp; omega) S1.out.le (kt_below HK.out bel) S1.out.bd
    clear y0 y1 y2 y3 bel
    go_wp2_with fail
    refine cC.mono ?_
    rintro e w2 ⟨rfl, hf2, hb2⟩
    have S2 := Lib.hid (S1.out.step hf2 hb2)
    clear cC hf2 hb2
    go_wp2
    go_end0
    exact ⟨rfl, S2.out.fb, by simpa using S2.out.bd⟩
set_option maxHeartbeats 2000000 in
theorem write_7a (hk0 : ks.length = 0) (hM : Mem n ks) (hl : l.length + 20 + 100 * cntNL ks ≤ 50000000) (hB : B ≤ w.heap.size) (hL1 : Lst w (· < B) (ks.take 0) (.slice ao (ks.take 0).length c)) (hL2 : Lst w (· < B) (ks.drop 0) (.slice ao (ks.drop 0).length c)) (hb : Bd B b l w) : Calls Tryz.prog 39 #[.pointer (some ⟨b, 0, none⟩), .agg #[.int .i64 7, .string ⟨s.toArray⟩, .int .i64 0, .slice ao ks.length c]] w (OutX B b w (l ++ ([102, 117, 110, 99, 40] ++ (rowP (txtN n) (ks.take 0) ++ ([41] ++ resP (txtN n) (ks.drop 0)))))) := by
    have HI := Lib.hid hI
    have HL1 := Lib.hid hL1
    have HL2 := Lib.hid hL2
    have HM1 := Lib.hid (hM.take 0)
    have HM2 := Lib.hid (hM.drop 0)
    have hcc := cut_cnt ks 0
    have hr1 := rowP_len (f := txtN n) (ts := ks.take 0) fun t ht => txtN_len n t (HM1.out.form t ht)
    have hn := hM.len
    have l1 : (ks.take 0).length = 0 := by simp
    have l2 : (ks.drop 0).length = 0 := by simp; exact List.eq_nil_of_length_eq_zero hk0
    rw [hk0]
    clear hI hL1 hL2 hM
    have S0 := Lib.hid (Wt.start (c0 := .int .i64 7) (c1 := .string ⟨s.toArray⟩) (c2 := .int .i64 0) (c3 := .slice ao 0 c) hB hb)
    have cW := ws_any B b l [102, 117, 110, 99] _ S0.out.bd (by simp; omega) S0.out.le
    clear hb
    go_enter Tryz.func39, Tryz.ntmps39
    go_wp2_with fail
    refine cW.mono ?_
    rintro e w1 ⟨rfl, hf1, hb1⟩
    have S1 := Lib.hid (S0.out.step hf1 hb1)
    obtain ⟨x0, x1, x2, x3⟩ := S1.out.cells
    clear cW hf1 hb1
    have cL := writeList_any HI.out (ks.take 0) ao c B b _ w1 HM1.out (by simp [cntNL]; omega) S1.out.le (lst_below4 HL1.out S1.out.fb.bel) S1.out.bd
    rw [l1] at cL
    go_wp2_with fail
    refine cL.mono ?_
    rintro e w2 ⟨rfl, hf2, hb2⟩
    have S2 := Lib.hid (S1.out.step hf2 hb2)
    obtain ⟨u0, u1, u2, u3⟩ := S2.out.cells
    have cR := writeResults_any HI.out (ks.drop 0) ao c B b _ w2 HM2.out (by simp [rowP]; omega) S2.out.le (lst_below4 HL2.out S2.out.fb.bel) S2.out.bd
    rw [l2] at cR
    clear cL hf2 hb2 x0 x1 x2 x3
    go_wp2_with fail
    refine cR.mono ?_
    rintro e w3 ⟨rfl, hf3, hb3⟩
    have S3 := Lib.hid (S2.out.step hf3 hb3)
    clear cR hf3 hb3
    go_wp2
    go_end0
    exact ⟨rfl, S3.out.fb, by simpa using S3.out.bd⟩
set_option maxHeartbeats 2000000 in
theorem write_7b (g o : Nat) (j : Nat) (hj : j ≤ ks.length) (hjc : j < c) (_hcc2 : ks.length ≤ c) (hM : Mem n ks) (hl : l.length + 20 + 100 * cntNL ks ≤ 50000000) (hB : B ≤ w.heap.size) (hL1 : Lst w (· < B) (ks.take j) (.slice (some ⟨g, o, none⟩) (ks.take j).length c)) (hL2 : Lst w (· < B) (ks.drop j) (.slice (some ⟨g, o + j * 4, none⟩) (ks.drop j).length (c - j))) (hb : Bd B b l w) : Calls Tryz.prog 39 #[.pointer (some ⟨b, 0, none⟩), .agg #[.int .i64 7, .string ⟨s.toArray⟩, .int .i64 j, .slice (some ⟨g, o, none⟩) ks.length c]] w (OutX B b w (l ++ ([102, 117, 110, 99, 40] ++ (rowP (txtN n) (ks.take j) ++ ([41] ++ resP (txtN n) (ks.drop j)))))) := by
    have HI := Lib.hid hI
    have HL1 := Lib.hid hL1
    have HL2 := Lib.hid hL2
    have HM1 := Lib.hid (hM.take j)
    have HM2 := Lib.hid (hM.drop j)
    have hcc := cut_cnt ks j
    have hr1 := rowP_len (f := txtN n) (ts := ks.take j) fun t ht => txtN_len n t (HM1.out.form t ht)
    have hn := hM.len
    have l1 : (ks.take j).length = j := by simp; omega
    have l2 : (ks.drop j).length = ks.length - j := by simp
    have hck0 : (c - j == 0) = false := by simp; omega
    clear hI hL1 hL2 hM
    have S0 := Lib.hid (Wt.start (c0 := .int .i64 7) (c1 := .string ⟨s.toArray⟩) (c2 := .int .i64 j) (c3 := .slice (some ⟨g, o, none⟩) ks.length c) hB hb)
    have cW := ws_any B b l [102, 117, 110, 99] _ S0.out.bd (by simp; omega) S0.out.le
    clear hb
    go_enter Tryz.func39, Tryz.ntmps39
    go_wp2_with fail
    refine cW.mono ?_
    rintro e w1 ⟨rfl, hf1, hb1⟩
    have S1 := Lib.hid (S0.out.step hf1 hb1)
    obtain ⟨x0, x1, x2, x3⟩ := S1.out.cells
    clear cW hf1 hb1
    have cL := writeList_any HI.out (ks.take j) (some ⟨g, o, none⟩) c B b _ w1 HM1.out (by simp; omega) S1.out.le (lst_below4 HL1.out S1.out.fb.bel) S1.out.bd
    rw [l1] at cL
    go_wp2_with fail
    refine cL.mono ?_
    rintro e w2 ⟨rfl, hf2, hb2⟩
    have S2 := Lib.hid (S1.out.step hf2 hb2)
    obtain ⟨u0, u1, u2, u3⟩ := S2.out.cells
    have cR := writeResults_any HI.out (ks.drop j) (some ⟨g, o + j * 4, none⟩) (c - j) B b _ w2 HM2.out (by simp; omega) S2.out.le (lst_below4 HL2.out S2.out.fb.bel) S2.out.bd
    rw [l2] at cR
    clear cL hf2 hb2 x0 x1 x2 x3
    go_wp2_with fail
    refine cR.mono ?_
    rintro e w3 ⟨rfl, hf3, hb3⟩
    have S3 := Lib.hid (S2.out.step hf3 hb3)
    clear cR hf3 hb3
    go_wp2
    go_end0
    exact ⟨rfl, S3.out.fb, by simpa using S3.out.bd⟩
set_option maxHeartbeats 2000000 in
theorem write_7c (g o : Nat) (j : Nat) (hj : j ≤ ks.length) (hjc : j ≤ c) (hjd : c ≤ j) (hcc2 : ks.length ≤ c) (_hcc3 : c ≤ ks.length) (hM : Mem n ks) (hl : l.length + 20 + 100 * cntNL ks ≤ 50000000) (hB : B ≤ w.heap.size) (hL1 : Lst w (· < B) (ks.take j) (.slice (some ⟨g, o, none⟩) (ks.take j).length c)) (hL2 : Lst w (· < B) (ks.drop j) (.slice (some ⟨g, o, none⟩) (ks.drop j).length 0)) (hb : Bd B b l w) : Calls Tryz.prog 39 #[.pointer (some ⟨b, 0, none⟩), .agg #[.int .i64 7, .string ⟨s.toArray⟩, .int .i64 j, .slice (some ⟨g, o, none⟩) ks.length c]] w (OutX B b w (l ++ ([102, 117, 110, 99, 40] ++ (rowP (txtN n) (ks.take j) ++ ([41] ++ resP (txtN n) (ks.drop j)))))) := by
    have HI := Lib.hid hI
    have HL1 := Lib.hid hL1
    have HL2 := Lib.hid hL2
    have HM1 := Lib.hid (hM.take j)
    have HM2 := Lib.hid (hM.drop j)
    have hcc := cut_cnt ks j
    have hr1 := rowP_len (f := txtN n) (ts := ks.take j) fun t ht => txtN_len n t (HM1.out.form t ht)
    have hn := hM.len
    have l1 : (ks.take j).length = j := by simp; omega
    have l2 : (ks.drop j).length = ks.length - j := by simp
    have hck0 : (c - j == 0) = true := by simp; omega
    clear hI hL1 hL2 hM
    have S0 := Lib.hid (Wt.start (c0 := .int .i64 7) (c1 := .string ⟨s.toArray⟩) (c2 := .int .i64 j) (c3 := .slice (some ⟨g, o, none⟩) ks.length c) hB hb)
    have cW := ws_any B b l [102, 117, 110, 99] _ S0.out.bd (by simp; omega) S0.out.le
    clear hb
    go_enter Tryz.func39, Tryz.ntmps39
    go_wp2_with fail
    refine cW.mono ?_
    rintro e w1 ⟨rfl, hf1, hb1⟩
    have S1 := Lib.hid (S0.out.step hf1 hb1)
    obtain ⟨x0, x1, x2, x3⟩ := S1.out.cells
    clear cW hf1 hb1
    have cL := writeList_any HI.out (ks.take j) (some ⟨g, o, none⟩) c B b _ w1 HM1.out (by simp; omega) S1.out.le (lst_below4 HL1.out S1.out.fb.bel) S1.out.bd
    rw [l1] at cL
    go_wp2_with fail
    refine cL.mono ?_
    rintro e w2 ⟨rfl, hf2, hb2⟩
    have S2 := Lib.hid (S1.out.step hf2 hb2)
    obtain ⟨u0, u1, u2, u3⟩ := S2.out.cells
    have cR := writeResults_any HI.out (ks.drop j) (some ⟨g, o, none⟩) 0 B b _ w2 HM2.out (by simp; omega) S2.out.le (lst_below4 HL2.out S2.out.fb.bel) S2.out.bd
    rw [l2] at cR
    clear cL hf2 hb2 x0 x1 x2 x3
    go_wp2_with fail
    refine cR.mono ?_
    rintro e w3 ⟨rfl, hf3, hb3⟩
    have S3 := Lib.hid (S2.out.step hf3 hb3)
    clear cR hf3 hb3
    go_wp2
    go_end0
    exact ⟨rfl, S3.out.fb, by simpa using S3.out.bd⟩
end
end Go.Proofs.YtbejkphekfbfnaaGreat
