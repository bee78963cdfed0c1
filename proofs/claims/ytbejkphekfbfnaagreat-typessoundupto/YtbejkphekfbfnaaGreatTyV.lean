/- The program's Text; the document's row, show and Text. -/
import Derived.Test.YtbejkphekfbfnaaGreatTyU
import Derived.Laws.IdiomStrings
namespace Go.Proofs.YtbejkphekfbfnaaGreat
open Go.RowKit
attribute [local go_sem ↓] Go.wp_at_zero Go.wp_at_succ

theorem Mem.of {n : Nat} {k : Int} {s : List UInt8} {m : Int} {ks : List Tr} (hf : formT (.mk k s m ks) = true) (hd : depN (.mk k s m ks) ≤ n + 1) (hc : cntN (.mk k s m ks) ≤ 1000000) : Mem n ks := by
  simp only [formT, Bool.and_eq_true] at hf
  simp only [depN] at hd
  simp only [cntN] at hc
  refine ⟨fun t ht => formL_mem hf.2 ht, fun t ht => by have := depNL_mem ht; omega, fun t ht => ?_, by have := cntNL_len ks; omega⟩
  have h1 := cntNL_mem ht
  obtain ⟨a, b, c, d⟩ := t
  have h2 := cntNL_len d
  simp only [cntN] at h1
  simp only [Tr.kids]; omega
/-- The kinds of a type that is right. -/
theorem own_cases {k : Int} {s : List UInt8} {m : Int} {n : Nat} (h : ownP k s m n = true) :
    k = 1 ∨ k = 2 ∨ k = 3 ∨ k = 8 ∨ (k = 4 ∧ s.length ≤ 64) ∨ (k = 5 ∧ n = 1) ∨ (k = 6 ∧ n = 1) ∨ (k = 7 ∧ 0 ≤ m ∧ m ≤ n) := by
  by_cases e1 : k = 1
  · exact .inl e1
  by_cases e2 : k = 2
  · exact .inr (.inl e2)
  by_cases e3 : k = 3
  · exact .inr (.inr (.inl e3))
  by_cases e8 : k = 8
  · exact .inr (.inr (.inr (.inl e8)))
  by_cases e4 : k = 4
  · subst e4
    simp [ownP, freeP] at h
    exact .inr (.inr (.inr (.inr (.inl ⟨rfl, nameP_len h.1.2⟩))))
  by_cases e5 : k = 5
  · subst e5
    simp [ownP] at h
    exact .inr (.inr (.inr (.inr (.inr (.inl ⟨rfl, by omega⟩)))))
  by_cases e6 : k = 6
  · subst e6
    simp [ownP] at h
    exact .inr (.inr (.inr (.inr (.inr (.inr (.inl ⟨rfl, by omega⟩))))))
  by_cases e7 : k = 7
  · subst e7
    simp [ownP] at h
    exact .inr (.inr (.inr (.inr (.inr (.inr (.inr ⟨rfl, h.2.1, h.2.2⟩))))))
  simp [ownP, e1, e2, e3, e4, e5, e6, e7, e8] at h
theorem one_of {ks : List Tr} (h : ks.length = 1) : ∃ a, ks = [a] := by
  match ks, h with
  | [a], _ => exact ⟨a, rfl⟩
theorem write_any : ∀ n, WrC n := by
  intro n
  induction n with
  | zero => intro k s m ks ao c B b l w hf hd; simp only [depN] at hd; omega
  | succ n hI =>
    intro k s m ks ao c B b l w hf hd hs hl hB hk hb
    have hM := Mem.of hf hd (by omega)
    have hL := Lst.of hk
    have ho := hf
    simp only [formT, Bool.and_eq_true] at ho
    simp only [cntN] at hl
    rcases own_cases ho.1 with rfl | rfl | rfl | rfl | ⟨rfl, h4⟩ | ⟨rfl, h5⟩ | ⟨rfl, h6⟩ | ⟨rfl, h7, h7'⟩
    · exact write_1 s m ks ao c B b l w (by omega) hB hb
    · exact write_2 s m ks ao c B b l w (by omega) hB hb
    · exact write_3 s m ks ao c B b l w (by omega) hB hb
    · exact write_8 s m ks ao c B b l w (by omega) hB hb
    · exact write_4 s m ks ao c B b l w (by omega) (by omega) hB hb
    · obtain ⟨a, ha⟩ := one_of h5
      have e : txtN (n + 1) (.mk 5 s m ks) = [42] ++ txtN n a := by rw [ha]; simp [txtN, Tr.kind, Tr.kids, rowP]
      rw [e]
      exact write_5 hI s m ks ao c B b l w a ha hM (by omega) hB hL hb
    · obtain ⟨a, ha⟩ := one_of h6
      have e : txtN (n + 1) (.mk 6 s m ks) = [91, 93] ++ txtN n a := by rw [ha]; simp [txtN, Tr.kind, Tr.kids, rowP]
      rw [e]
      exact write_6 hI s m ks ao c B b l w a ha hM (by omega) hB hL hb
    · obtain ⟨j, rfl⟩ : ∃ j : Nat, m = j := ⟨m.toNat, by omega⟩
      have hj : j ≤ ks.length := by omega
      have e : txtN (n + 1) (.mk 7 s j ks) = [102, 117, 110, 99, 40] ++ (rowP (txtN n) (ks.take j) ++ ([41] ++ resP (txtN n) (ks.drop j))) := by simp [txtN, Tr.kind, Tr.kids, Tr.num]
      rw [e]
      have l1 : (ks.take j).length = j := by simp; omega
      have l2 : (ks.drop j).length = ks.length - j := by simp
      rcases hL.cut hj with ⟨hks, rfl⟩ | ⟨g, o, rfl, hck, hcc, L1, L2⟩ | ⟨g, o, rfl, hjl, hcl, L1⟩
      · subst hks
        exact write_7a hI s [] ao c B b l w rfl hM (by omega) hB (Lst.nil _ _) (Lst.nil _ _) hb
      · exact write_7b hI s ks c B b l w g o j hj hck hcc hM (by omega) hB (by rw [l1]; exact L1) (by rw [l2]; exact L2) hb
      · have hd0 : ks.drop j = [] := by rw [hjl]; simp
        exact write_7c hI s ks c B b l w g o j hj (by omega) (by omega) (by omega) (by omega) hM (by omega) hB (by rw [l1]; exact L1) (by rw [hd0]; exact Lst.nil _ _) hb

def textP (t : Tr) : List UInt8 := if soundP t then txtN 100 t else []
theorem textP_len (t : Tr) : (textP t).length ≤ 1600000 := by
  unfold textP
  split
  · rename_i h
    simp only [soundP, Bool.and_eq_true, decide_eq_true_eq] at h
    have := txtN_len 100 t h.2
    omega
  · simp
/-- What answers a text. -/
def OutS4 (s : List UInt8) (w : World) (e : Ending) (w' : World) : Prop := e = .returned (.string ⟨s.toArray⟩) ∧ Below w.heap.size w w'
theorem OutS4.of {s s' : List UInt8} {w : World} {e : Ending} {w' : World} (hr : Hid (s = s')) (o : OutS4 s' w e w') : OutS4 s w e w' := by
  have := hr.out; subst this; exact o
set_option maxRecDepth 20000 in
set_option maxHeartbeats 1000000 in
theorem text_any (k : Int) (s : List UInt8) (m : Int) (ks : List Tr) (ao : Option Addr) (c : Nat) (w : World) (h : Ty w (.mk k s m ks) (.slice ao ks.length c)) :
    Calls Tryz.prog 15 #[.agg #[.int .i64 k, .string ⟨s.toArray⟩, .int .i64 m, .slice ao ks.length c]] w (OutS4 (textP (.mk k s m ks)) w) := by
  have HR : Hid (textP (.mk k s m ks) = if soundP (.mk k s m ks) then txtN 100 (.mk k s m ks) else []) := rfl
  have hX0 := Hxt.start (w := w) (c0 := .int .i64 k) (c1 := .string ⟨s.toArray⟩) (c2 := .int .i64 m) (c3 := .slice ao ks.length c)
  have cA := (h.later hX0.out).sound
  simp only [tv, Tr.kind, Tr.text, Tr.num] at cA
  have HT := Lib.hid h
  clear h
  cases e1 : soundP (.mk k s m ks) with
  | false =>
    have HX : Hid (textP (.mk k s m ks) = []) := HR.out.trans (by rw [e1]; rfl)
    rw [e1] at cA
    clear e1
    go_enter Tryz.func15, Tryz.ntmps15
    go_wp2_with fail
    refine cA.mono ?_
    rintro e w2 ⟨rfl, hb2⟩
    have hX := hX0.next hb2
    clear cA hX0 hb2
    go_wp2
    go_ret
    exact OutS4.of HX ⟨rfl, hX.out⟩
  | true =>
    have HX : Hid (textP (.mk k s m ks) = txtN 100 (.mk k s m ks)) := HR.out.trans (by rw [e1]; rfl)
    have HS := Lib.hid e1
    rw [e1] at cA
    clear e1
    go_enter Tryz.func15, Tryz.ntmps15
    go_wp2_with fail
    refine cA.mono ?_
    rintro e w2 ⟨rfl, hb2⟩
    have hX := hX0.next hb2
    obtain ⟨x0, x1, x2, x3⟩ := hX.cells
    have hXs : w.heap.size < w2.heap.size := by have := hX.size; omega
    have hT2 := HT.out.later hX.out
    have hsp := HS.out
    simp only [soundP, Bool.and_eq_true, decide_eq_true_eq] at hsp
    have hB0 : Below w2.heap.size w2 (w2.alloc (.cells #[.pointer none, .slice none 0 0] 52)) := (Below.refl _ _).alloc (Nat.le_refl _) _
    have hbd : Bd w2.heap.size w2.heap.size [] (w2.alloc (.cells #[.pointer none, .slice none 0 0] 52)) :=
      .inl ⟨Nat.le_refl _, .slice none 0 0, heap_alloc_new w2 _, World.ownsRowF_of (World.ownsRow_nil _ _ _ _), by simp [Value.ownBlock]⟩
    have hcn := cntNL_len ks
    have cW := write_any 100 k s m ks ao c w2.heap.size w2.heap.size [] _ hsp.2 hsp.1.2 (by have := hsp.1.1; simp only [cntN] at this; omega) (by have := hsp.1.1; simp; omega) hB0.size (kt_below hT2.kt hB0) hbd
    have HB0 := Lib.hid hB0
    clear cA hX0 hb2 hT2 hsp hbd hB0
    go_wp2_with fail
    refine cW.mono ?_
    rintro e w3 ⟨rfl, hf3, hb3⟩
    have cS := bstr_any _ _ _ w3 hb3 (Nat.le_trans HB0.out.size hf3.bel.size)
    have HF3 := Lib.hid hf3
    clear cW hb3 hf3
    go_wp2_with fail
    refine cS.mono ?_
    rintro e w4 ⟨rfl, hf4⟩
    have HF4 := Lib.hid hf4
    clear cS hf4
    go_wp2
    go_ret
    refine OutS4.of HX ⟨by simp, ?_⟩
    exact hX.out.trans ((HB0.out.trans (HF3.out.bel.trans HF4.out.bel)).mono hX.out.size)

theorem ba_app (a b : List UInt8) : (⟨a.toArray⟩ : ByteArray) ++ ⟨b.toArray⟩ = ⟨(a ++ b).toArray⟩ := by
  apply ByteArray.ext
  simp
theorem ba_cat (a : List UInt8) (b : Array UInt8) : (⟨a.toArray⟩ : ByteArray) ++ ⟨b⟩ = ⟨(a ++ b.toList).toArray⟩ := by
  apply ByteArray.ext
  simp
/-- What show owes of types so deep. -/
def ShC (n : Nat) : Prop := ∀ (k : Int) (s : List UInt8) (m : Int) (ks : List Tr) (ao : Option Addr) (c : Nat) (S : Nat → Prop) (w : World), formT (.mk k s m ks) = true → depN (.mk k s m ks) ≤ n → cntN (.mk k s m ks) ≤ 500000 → (∀ b, S b → b < w.heap.size) → KT w S (.mk k s m ks) (.slice ao ks.length c) →
    Calls Tryz.prog 41 #[.agg #[.int .i64 k, .string ⟨s.toArray⟩, .int .i64 m, .slice ao ks.length c]] w (OutS4 (txtN n (.mk k s m ks)) w)
set_option maxRecDepth 20000 in
set_option maxHeartbeats 4000000 in
theorem row_any4 {n : Nat} (hI : ShC n) (ts : List Tr) (ao : Option Addr) (c : Nat) (S : Nat → Prop) (w : World) (hM : Mem n ts) (hl : cntNL ts ≤ 500000) (hS : ∀ b, S b → b < w.heap.size) (hL : Lst w S ts (.slice ao ts.length c)) :
    Calls Tryz.prog 78 #[.slice ao ts.length c] w (OutS4 (rowP (txtN n) ts) w) := by
  have HI := Lib.hid hI
  have HM := Lib.hid hM
  have hlen := hM.len
  have HN : Hid (∀ j, (rowP (txtN n) (ts.take j)).length ≤ 80 * cntNL (ts.take j)) := fun j => rowP_len (f := txtN n) (ts := ts.take j) fun t ht => txtN_len n t (hM.form t (List.mem_of_mem_take ht))
  have HL := Lib.hid hL
  clear hI hM hL
  go_enter Tryz.func78, Tryz.ntmps78
  go_wp2_with fail
  go_loopw [3, 4] (fun v3 v4 wr => ∃ j : Nat, j ≤ ts.length ∧ v4 = .int .i64 j ∧ v3 = .string ⟨(rowP (txtN n) (ts.take j)).toArray⟩ ∧ Below w.heap.size w wr) (fun _ v4 _ => ts.length - (intOf v4).toNat)
  case atStart => exact ⟨0, Nat.zero_le _, rfl, by simp [rowP], Below.refl _ _⟩
  case round =>
    obtain ⟨j, hj, rfl, rfl, hB⟩ := hrel
    by_cases hlt : j < ts.length
    · obtain ⟨a, ha⟩ : ∃ t, ts[j]? = some t := ⟨_, List.getElem?_eq_getElem hlt⟩
      obtain ⟨g, o, a0, n0, q0, hao, y0, y1, y2, y3, hg, hka⟩ := HL.out.kid ha hS
      subst hao
      have z0 := (hB.cell (p := ⟨g, o + j * 4, none⟩) hg).trans y0
      have z1 := (hB.cell (p := ⟨g, o + j * 4 + 1, none⟩) hg).trans y1
      have z2 := (hB.cell (p := ⟨g, o + j * 4 + 2, none⟩) hg).trans y2
      have z3 := (hB.cell (p := ⟨g, o + j * 4 + 3, none⟩) hg).trans y3
      have hm := List.mem_of_getElem? ha
      have hfa := HM.out.form a hm
      have hda := HM.out.dep a hm
      have hca : cntNL (ts.take j) + cntN a ≤ cntNL ts := by
        have h1 := cut_cnt ts (j + 1)
        rw [List.take_add_one, ha, Option.toList_some, cntNL_append] at h1
        simp only [cntNL] at h1
        omega
      have hta := txtN_len n a hfa
      have hrl := HN.out j
      have HX := Lib.hid (rowP_take (txtN n) ha)
      have hka' : KT wr S a (.slice a0 n0 q0) := hka.fr (fun b hb => hB.block b (hS b hb)) (fun _ h => h)
      obtain ⟨ak, av, am, aks⟩ := a
      obtain ⟨_, _, e⟩ := (Lst.of hka').slice
      injection e with e4 e5 e7
      clear e4 e7
      subst e5
      have cC := HI.out ak av am aks a0 q0 S wr hfa hda (by omega) (fun b hb => Nat.lt_of_lt_of_le (hS b hb) hB.size) hka'
      simp only [Tr.kind, Tr.text, Tr.num] at z0 z1 z2
      generalize hR : rowP (txtN n) (ts.take j) = R at *
      generalize hQ : txtN n (.mk ak av am aks) = Q at *
      have hRl : R.length ≤ 40000000 := by omega
      have hQl : Q.length ≤ 40000000 := by omega
      clear ha hka hka' hm y0 y1 y2 y3 hrl hta hca
      by_cases j0 : j = 0
      · subst j0
        simp only [Nat.zero_mul, Nat.add_zero] at z0 z1 z2 z3
        go_wp2_with fail
        refine cC.mono ?_
        rintro e w2 ⟨rfl, hb2⟩
        have hB2 := hB.trans (hb2.mono hB.size)
        clear cC hb2
        go_wp2
        go_roundw
        case rel => exact ⟨1, by omega, by go_num, by rw [HX.out, ba_app]; simp, hB2⟩
        case measure => simp [intOf]; omega
      · have jp : decide (0 < (j : Int)) = true := by simp; omega
        have jp2 : 0 < j := by omega
        go_wp2_with fail
        refine cC.mono ?_
        rintro e w2 ⟨rfl, hb2⟩
        have hB2 := hB.trans (hb2.mono hB.size)
        clear cC hb2
        go_wp2
        go_roundw
        case rel => exact ⟨j + 1, by omega, by go_num, by rw [HX.out, if_neg j0, ba_cat, ba_app]; simp, hB2⟩
        case measure => simp [intOf]; omega
    · have et : ts.take j = ts := List.take_of_length_le (by omega)
      rw [et]
      go_wp2
      go_ret
      exact ⟨by simp, hB⟩
end Go.Proofs.YtbejkphekfbfnaaGreat
