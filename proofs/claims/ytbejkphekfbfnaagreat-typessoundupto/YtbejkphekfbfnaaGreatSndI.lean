/- Tests of declarations and programs: Sound. -/
import Derived.Test.YtbejkphekfbfnaaGreatSndH
namespace Go.Proofs.YtbejkphekfbfnaaGreat
open Go.RowKit
attribute [local go_sem ↓] Go.wp_at_zero Go.wp_at_succ

/-- No text of a tree, down to so many nodes, is too long. -/
def txtT : Nat → Tr → Prop
  | 0, _ => True
  | n + 1, t => t.text.length ≤ maxLen ∧ ∀ k ∈ t.kids, txtT n k
theorem parB_row {r : Q → Tr → Bool} {k : Int} {s : List UInt8} {m : Int} {ks : List Tr} (h : parB r (.mk k s m ks) = true) : ∃ a, ks = [a] ∧ r .typ a = true := by
  simp only [parB, Bool.and_eq_true, Tr.kids] at h
  obtain ⟨a, rfl⟩ := List.length_eq_one_iff.1 (rowB_length h.2.2)
  exact ⟨a, rfl, by simpa [rowB] using h.2.2⟩
theorem recB_false {r : Q → Tr → Bool} {t : Tr} (h : parB r t = false) : recB r t = false := by simp [recB, h]
theorem recB_no {r : Q → Tr → Bool} {k : Int} {s : List UInt8} {m : Int} {a : Tr} (h : (a.kind == 11) = false) : recB r (.mk k s m [a]) = false := by simp [recB, Tr.kids, h]
theorem recB_two {r : Q → Tr → Bool} {k : Int} {s : List UInt8} {m : Int} {a b : Tr} (hp : parB r (.mk k s m [a]) = true) (h : (a.kind == 11) = true) (hb : a.kids = [b]) : recB r (.mk k s m [a]) = (b.kind == 10) := by
  have e : recB r (.mk k s m [a]) = (parB r (.mk k s m [a]) && (a.kind == 11 && (match a.kids with
    | j :: _ => j.kind == 10
    | _ => false))) := rfl
  rw [e, hp, h, hb]; rfl
theorem typ_ptr {n : Nat} {a : Tr} (h : snd n .typ a = true) (hk : a.kind = 11) : a.kids.length = 1 := by
  cases n with
  | zero => simp [snd] at h
  | succ n =>
    have h' : typB (snd n) a = true := h
    simp [typB, hk] at h'
    exact rowB_length h'.2
set_option maxRecDepth 20000 in
set_option maxHeartbeats 4000000 in
theorem rec_step {n : Nat} (hParS : Tst 140 (n + 1) (parB (snd n))) : Tst 126 (n + 1) (recB (snd n)) := by
  intro t sl S w hG hS hF hk
  obtain ⟨k, s, m, ks⟩ := t
  obtain ⟨ao, c, rfl⟩ := (Lst.of hk).slice
  have hL := Lst.of hk
  have hX0 := Hx.start (w := w) (c0 := .int .i64 k) (c1 := .string ⟨s.toArray⟩) (c2 := .int .i64 m) (c3 := .slice ao ks.length c)
  have c1 := hParS.at hG hS hF hk hX0.out
  change Calls Tryz.prog 126 #[.agg #[.int .i64 k, .string ⟨s.toArray⟩, .int .i64 m, .slice ao ks.length c]] w _
  go_enter Tryz.func126, Tryz.ntmps126
  go_wp2_with fail
  refine c1.mono ?_
  rintro e w1 ⟨rfl, hb1⟩
  have hX1 := hX0.next hb1
  clear c1
  obtain ⟨x0, x1, x2, x3⟩ := hX1.cells
  cases h1 : parB (snd n) (.mk k s m ks) with
  | false =>
    have HX : Hid (recB (snd n) (.mk k s m ks) = false) := recB_false h1
    clear h1
    go_wp2
    go_ret
    exact ⟨congrArg (fun b => Ending.returned (Value.bool b)) HX.out.symm, hX1.out⟩
  | true =>
    obtain ⟨a', hka', hta⟩ := parB_row h1
    have hlen : ks.length = 1 := by rw [hka']; rfl
    obtain ⟨a, g0, o0, a0, n0, q0, hks, hao, y0, y1, y2, y3, hla, hka⟩ := Lst.kid1 hL hlen hS
    obtain rfl : a' = a := by rw [hka'] at hks; injection hks
    obtain rfl := hao
    have hlt0 : 0 < ks.length := by omega
    have z0 := (hX1.out.cell (p := ⟨g0, o0 + 0, none⟩) hla).trans y0
    have z3 := (hX1.out.cell (p := ⟨g0, o0 + 3, none⟩) hla).trans y3
    rw [Nat.add_zero] at z0
    have H1 := Lib.hid h1
    have HKS := Lib.hid hks
    clear h1 hka' hks y0 y1 y2 y3 hlen
    cases h2 : (a'.kind == 11) with
    | false =>
      have HX : Hid (recB (snd n) (.mk k s m ks) = false) := Lib.hid (by rw [HKS.out]; exact recB_no h2)
      go_wp2
      go_ret
      exact ⟨congrArg (fun b => Ending.returned (Value.bool b)) HX.out.symm, hX1.out⟩
    | true =>
      have hl2 : a'.kids.length = 1 := typ_ptr hta (by simpa using h2)
      have hL2 := Lst.kids hka
      obtain ⟨ao2, c2, e2⟩ := hL2.slice
      injection e2 with e21 e22 e23
      obtain ⟨b, g1, o1, a1, n1, q1, hks2, hao2, y0, y1, y2, y3, hla2, hka2⟩ := Lst.kid1 hL2 hl2 hS
      obtain rfl := hao2
      have hn0 : 0 < n0 := by omega
      have HX : Hid (recB (snd n) (.mk k s m ks) = (b.kind == 10)) := Lib.hid (by have h1 := H1.out; rw [HKS.out] at h1 ⊢; exact recB_two h1 h2 hks2)
      have u0 := (hX1.out.cell (p := ⟨g1, o1 + 0, none⟩) hla2).trans y0
      rw [Nat.add_zero] at u0
      clear hl2 hks2 y0 y1 y2 y3 e21 e22 e23
      go_wp2
      go_ret
      exact ⟨congrArg (fun b => Ending.returned (Value.bool b)) HX.out.symm, hX1.out⟩
set_option maxRecDepth 20000 in
set_option maxHeartbeats 4000000 in
theorem fld_step {n : Nat} {r : Q → Tr → Bool} (hTyp : Tst 137 n (r .typ)) : Tst 121 (n + 1) (fldB r) := by
  intro t sl S w hG hS hF hk
  obtain ⟨k, s, m, ks⟩ := t
  obtain ⟨ao, c, rfl⟩ := (Lst.of hk).slice
  have hF0 := hF
  obtain ⟨hF1, hF2, hF3⟩ := hF0
  change ∀ t ∈ ks, Fit _ t at hF3
  change ks.length ≤ 20000 at hF1
  change s.length ≤ maxLen at hF2
  have hL := Lst.of hk
  have hkn : ks.length ≤ 20000 := hF1
  by_cases hk6 : k = 6
  · subst hk6
    have HR : Hid (fldB r (.mk 6 s m ks) = (namedT (.mk 6 s m ks) && rowB [r .typ] ks)) := rfl
    have hX0 := Hx.start (w := w) (c0 := .int .i64 6) (c1 := .string ⟨s.toArray⟩) (c2 := .int .i64 m) (c3 := .slice ao ks.length c)
    have c1 := namedS_any (.mk 6 s m ks) ao ks.length c _ (hG.later hX0.out) hF2
    change Calls Tryz.prog 121 #[.agg #[.int .i64 6, .string ⟨s.toArray⟩, .int .i64 m, .slice ao ks.length c]] w _
    go_enter Tryz.func121, Tryz.ntmps121
    go_wp2_with fail
    refine c1.mono ?_
    rintro e w1 ⟨rfl, hb1⟩
    have hX1 := hX0.next hb1
    clear c1
    obtain ⟨x0, x1, x2, x3⟩ := hX1.cells
    cases h1 : namedT (.mk 6 s m ks) with
    | false =>
      have HX : Hid (fldB r (.mk 6 s m ks) = false) := HR.out.trans (by rw [h1]; try rfl)
      clear h1
      go_wp2
      go_ret
      exact ⟨congrArg (fun b => Ending.returned (Value.bool b)) HX.out.symm, hX1.out⟩
    | true =>
      have HR1 : Hid (fldB r (.mk 6 s m ks) = rowB [r .typ] ks) := HR.out.trans (by rw [h1]; try rfl)
      clear h1
      have c2 := rowW1 ent_typ hTyp hG hS hF3 hL hX1.out
      go_wp2_with fail
      refine c2.mono ?_
      rintro e w2 ⟨rfl, hb2⟩
      have hX2 := hX1.next hb2
      clear c2
      clear x0 x1 x2 x3
      obtain ⟨x0, x1, x2, x3⟩ := hX2.cells
      have HX := HR1
      go_wp2
      go_ret
      exact ⟨congrArg (fun b => Ending.returned (Value.bool b)) HX.out.symm, hX2.out⟩
  have HX : Hid (fldB r (.mk k s m ks) = false) := by simp [Hid, fldB, Tr.kind, hk6]
  have hX0 := Hx.start (w := w) (c0 := .int .i64 k) (c1 := .string ⟨s.toArray⟩) (c2 := .int .i64 m) (c3 := .slice ao ks.length c)
  have e6 : (k == 6) = false := by simpa using hk6
  clear hk6
  change Calls Tryz.prog 121 #[.agg #[.int .i64 k, .string ⟨s.toArray⟩, .int .i64 m, .slice ao ks.length c]] w _
  go_enter Tryz.func121, Tryz.ntmps121
  go_wp2
  go_ret
  exact ⟨congrArg (fun b => Ending.returned (Value.bool b)) HX.out.symm, hX0.out⟩

set_option maxRecDepth 20000 in
set_option maxHeartbeats 4000000 in
theorem met_step {n : Nat} {r : Q → Tr → Bool} (hSig : Tst 124 n (r .sig)) : Tst 122 (n + 1) (metB r) := by
  intro t sl S w hG hS hF hk
  obtain ⟨k, s, m, ks⟩ := t
  obtain ⟨ao, c, rfl⟩ := (Lst.of hk).slice
  have hF0 := hF
  obtain ⟨hF1, hF2, hF3⟩ := hF0
  change ∀ t ∈ ks, Fit _ t at hF3
  change ks.length ≤ 20000 at hF1
  change s.length ≤ maxLen at hF2
  have hL := Lst.of hk
  have hkn : ks.length ≤ 20000 := hF1
  by_cases hk6 : k = 6
  · subst hk6
    have HR : Hid (metB r (.mk 6 s m ks) = (namedT (.mk 6 s m ks) && rowB [r .sig] ks)) := rfl
    have hX0 := Hx.start (w := w) (c0 := .int .i64 6) (c1 := .string ⟨s.toArray⟩) (c2 := .int .i64 m) (c3 := .slice ao ks.length c)
    have c1 := namedS_any (.mk 6 s m ks) ao ks.length c _ (hG.later hX0.out) hF2
    change Calls Tryz.prog 122 #[.agg #[.int .i64 6, .string ⟨s.toArray⟩, .int .i64 m, .slice ao ks.length c]] w _
    go_enter Tryz.func122, Tryz.ntmps122
    go_wp2_with fail
    refine c1.mono ?_
    rintro e w1 ⟨rfl, hb1⟩
    have hX1 := hX0.next hb1
    clear c1
    obtain ⟨x0, x1, x2, x3⟩ := hX1.cells
    cases h1 : namedT (.mk 6 s m ks) with
    | false =>
      have HX : Hid (metB r (.mk 6 s m ks) = false) := HR.out.trans (by rw [h1]; try rfl)
      clear h1
      go_wp2
      go_ret
      exact ⟨congrArg (fun b => Ending.returned (Value.bool b)) HX.out.symm, hX1.out⟩
    | true =>
      have HR1 : Hid (metB r (.mk 6 s m ks) = rowB [r .sig] ks) := HR.out.trans (by rw [h1]; try rfl)
      clear h1
      have c2 := rowW1 ent_sig hSig hG hS hF3 hL hX1.out
      go_wp2_with fail
      refine c2.mono ?_
      rintro e w2 ⟨rfl, hb2⟩
      have hX2 := hX1.next hb2
      clear c2
      clear x0 x1 x2 x3
      obtain ⟨x0, x1, x2, x3⟩ := hX2.cells
      have HX := HR1
      go_wp2
      go_ret
      exact ⟨congrArg (fun b => Ending.returned (Value.bool b)) HX.out.symm, hX2.out⟩
  have HX : Hid (metB r (.mk k s m ks) = false) := by simp [Hid, metB, Tr.kind, hk6]
  have hX0 := Hx.start (w := w) (c0 := .int .i64 k) (c1 := .string ⟨s.toArray⟩) (c2 := .int .i64 m) (c3 := .slice ao ks.length c)
  have e6 : (k == 6) = false := by simpa using hk6
  clear hk6
  change Calls Tryz.prog 122 #[.agg #[.int .i64 k, .string ⟨s.toArray⟩, .int .i64 m, .slice ao ks.length c]] w _
  go_enter Tryz.func122, Tryz.ntmps122
  go_wp2
  go_ret
  exact ⟨congrArg (fun b => Ending.returned (Value.bool b)) HX.out.symm, hX0.out⟩

set_option maxRecDepth 20000 in
set_option maxHeartbeats 4000000 in
theorem dec_step {n : Nat} (hFld : Tst 121 (n + 1) (fldB (snd n))) (hMet : Tst 122 (n + 1) (metB (snd n))) (hSig : Tst 124 (n + 1) (snd (n + 1) .sig)) (hBlk : Tst 125 (n + 1) (snd (n + 1) .blk)) (hRec : Tst 126 (n + 1) (recB (snd n))) : Tst 104 (n + 2) (decB n) := by
  intro t sl S w hG hS hF hk
  obtain ⟨k, s, m, ks⟩ := t
  obtain ⟨ao, c, rfl⟩ := (Lst.of hk).slice
  have hF0 := hF
  obtain ⟨hF1, hF2, hF3⟩ := hF0
  change ∀ t ∈ ks, Fit _ t at hF3
  change ks.length ≤ 20000 at hF1
  change s.length ≤ maxLen at hF2
  have hL := Lst.of hk
  have hkn : ks.length ≤ 20000 := hF1
  by_cases hk2 : k = 2
  · subst hk2
    have HR : Hid (decB n (.mk 2 s m ks) = (namedT (.mk 2 s m ks) && ks.all (fldB (snd n)))) := rfl
    have hX0 := Hx.start (w := w) (c0 := .int .i64 2) (c1 := .string ⟨s.toArray⟩) (c2 := .int .i64 m) (c3 := .slice ao ks.length c)
    have c1 := namedS_any (.mk 2 s m ks) ao ks.length c _ (hG.later hX0.out) hF2
    change Calls Tryz.prog 104 #[.agg #[.int .i64 2, .string ⟨s.toArray⟩, .int .i64 m, .slice ao ks.length c]] w _
    go_enter Tryz.func104, Tryz.ntmps104
    go_wp2_with fail
    refine c1.mono ?_
    rintro e w1 ⟨rfl, hb1⟩
    have hX1 := hX0.next hb1
    clear c1
    obtain ⟨x0, x1, x2, x3⟩ := hX1.cells
    cases h1 : namedT (.mk 2 s m ks) with
    | false =>
      have HX : Hid (decB n (.mk 2 s m ks) = false) := HR.out.trans (by rw [h1]; try rfl)
      clear h1
      go_wp2
      go_ret
      exact ⟨congrArg (fun b => Ending.returned (Value.bool b)) HX.out.symm, hX1.out⟩
    | true =>
      have HR1 : Hid (decB n (.mk 2 s m ks) = ks.all (fldB (snd n))) := HR.out.trans (by rw [h1]; try rfl)
      clear h1
      have c2 := everyW ent_fld hFld hG hS hF3 hF1 hL hX1.out
      go_wp2_with fail
      refine c2.mono ?_
      rintro e w2 ⟨rfl, hb2⟩
      have hX2 := hX1.next hb2
      clear c2
      clear x0 x1 x2 x3
      obtain ⟨x0, x1, x2, x3⟩ := hX2.cells
      have HX := HR1
      go_wp2
      go_ret
      exact ⟨congrArg (fun b => Ending.returned (Value.bool b)) HX.out.symm, hX2.out⟩
  by_cases hk3 : k = 3
  · subst hk3
    have HR : Hid (decB n (.mk 3 s m ks) = (namedT (.mk 3 s m ks) && ks.all (metB (snd n)))) := rfl
    have hX0 := Hx.start (w := w) (c0 := .int .i64 3) (c1 := .string ⟨s.toArray⟩) (c2 := .int .i64 m) (c3 := .slice ao ks.length c)
    have c1 := namedS_any (.mk 3 s m ks) ao ks.length c _ (hG.later hX0.out) hF2
    change Calls Tryz.prog 104 #[.agg #[.int .i64 3, .string ⟨s.toArray⟩, .int .i64 m, .slice ao ks.length c]] w _
    go_enter Tryz.func104, Tryz.ntmps104
    go_wp2_with fail
    refine c1.mono ?_
    rintro e w1 ⟨rfl, hb1⟩
    have hX1 := hX0.next hb1
    clear c1
    obtain ⟨x0, x1, x2, x3⟩ := hX1.cells
    cases h1 : namedT (.mk 3 s m ks) with
    | false =>
      have HX : Hid (decB n (.mk 3 s m ks) = false) := HR.out.trans (by rw [h1]; try rfl)
      clear h1
      go_wp2
      go_ret
      exact ⟨congrArg (fun b => Ending.returned (Value.bool b)) HX.out.symm, hX1.out⟩
    | true =>
      have HR1 : Hid (decB n (.mk 3 s m ks) = ks.all (metB (snd n))) := HR.out.trans (by rw [h1]; try rfl)
      clear h1
      have c2 := everyW ent_met hMet hG hS hF3 hF1 hL hX1.out
      go_wp2_with fail
      refine c2.mono ?_
      rintro e w2 ⟨rfl, hb2⟩
      have hX2 := hX1.next hb2
      clear c2
      clear x0 x1 x2 x3
      obtain ⟨x0, x1, x2, x3⟩ := hX2.cells
      have HX := HR1
      go_wp2
      go_ret
      exact ⟨congrArg (fun b => Ending.returned (Value.bool b)) HX.out.symm, hX2.out⟩
  by_cases hk4 : k = 4
  · subst hk4
    have HR : Hid (decB n (.mk 4 s m ks) = (namedT (.mk 4 s m ks) && rowB [snd (n + 1) .sig, snd (n + 1) .blk] ks)) := rfl
    have hX0 := Hx.start (w := w) (c0 := .int .i64 4) (c1 := .string ⟨s.toArray⟩) (c2 := .int .i64 m) (c3 := .slice ao ks.length c)
    have c1 := namedS_any (.mk 4 s m ks) ao ks.length c _ (hG.later hX0.out) hF2
    change Calls Tryz.prog 104 #[.agg #[.int .i64 4, .string ⟨s.toArray⟩, .int .i64 m, .slice ao ks.length c]] w _
    go_enter Tryz.func104, Tryz.ntmps104
    go_wp2_with fail
    refine c1.mono ?_
    rintro e w1 ⟨rfl, hb1⟩
    have hX1 := hX0.next hb1
    clear c1
    obtain ⟨x0, x1, x2, x3⟩ := hX1.cells
    cases h1 : namedT (.mk 4 s m ks) with
    | false =>
      have HX : Hid (decB n (.mk 4 s m ks) = false) := HR.out.trans (by rw [h1]; try rfl)
      clear h1
      go_wp2
      go_ret
      exact ⟨congrArg (fun b => Ending.returned (Value.bool b)) HX.out.symm, hX1.out⟩
    | true =>
      have HR1 : Hid (decB n (.mk 4 s m ks) = rowB [snd (n + 1) .sig, snd (n + 1) .blk] ks) := HR.out.trans (by rw [h1]; try rfl)
      clear h1
      have c2 := rowW2 ent_sig ent_blk hSig hBlk hG hS hF3 hL hX1.out
      go_wp2_with fail
      refine c2.mono ?_
      rintro e w2 ⟨rfl, hb2⟩
      have hX2 := hX1.next hb2
      clear c2
      clear x0 x1 x2 x3
      obtain ⟨x0, x1, x2, x3⟩ := hX2.cells
      have HX := HR1
      go_wp2
      go_ret
      exact ⟨congrArg (fun b => Ending.returned (Value.bool b)) HX.out.symm, hX2.out⟩
  by_cases hk5 : k = 5
  · subst hk5
    have HR : Hid (decB n (.mk 5 s m ks) = (namedT (.mk 5 s m ks) && rowB [recB (snd n), snd (n + 1) .sig, snd (n + 1) .blk] ks)) := rfl
    have hX0 := Hx.start (w := w) (c0 := .int .i64 5) (c1 := .string ⟨s.toArray⟩) (c2 := .int .i64 m) (c3 := .slice ao ks.length c)
    have c1 := namedS_any (.mk 5 s m ks) ao ks.length c _ (hG.later hX0.out) hF2
    change Calls Tryz.prog 104 #[.agg #[.int .i64 5, .string ⟨s.toArray⟩, .int .i64 m, .slice ao ks.length c]] w _
    go_enter Tryz.func104, Tryz.ntmps104
    go_wp2_with fail
    refine c1.mono ?_
    rintro e w1 ⟨rfl, hb1⟩
    have hX1 := hX0.next hb1
    clear c1
    obtain ⟨x0, x1, x2, x3⟩ := hX1.cells
    cases h1 : namedT (.mk 5 s m ks) with
    | false =>
      have HX : Hid (decB n (.mk 5 s m ks) = false) := HR.out.trans (by rw [h1]; try rfl)
      clear h1
      go_wp2
      go_ret
      exact ⟨congrArg (fun b => Ending.returned (Value.bool b)) HX.out.symm, hX1.out⟩
    | true =>
      have HR1 : Hid (decB n (.mk 5 s m ks) = rowB [recB (snd n), snd (n + 1) .sig, snd (n + 1) .blk] ks) := HR.out.trans (by rw [h1]; try rfl)
      clear h1
      have c2 := rowW3 ent_rec ent_sig ent_blk hRec hSig hBlk hG hS hF3 hL hX1.out
      go_wp2_with fail
      refine c2.mono ?_
      rintro e w2 ⟨rfl, hb2⟩
      have hX2 := hX1.next hb2
      clear c2
      clear x0 x1 x2 x3
      obtain ⟨x0, x1, x2, x3⟩ := hX2.cells
      have HX := HR1
      go_wp2
      go_ret
      exact ⟨congrArg (fun b => Ending.returned (Value.bool b)) HX.out.symm, hX2.out⟩
  have HX : Hid (decB n (.mk k s m ks) = false) := by simp [Hid, decB, Tr.kind, hk2, hk3, hk4, hk5]
  have hX0 := Hx.start (w := w) (c0 := .int .i64 k) (c1 := .string ⟨s.toArray⟩) (c2 := .int .i64 m) (c3 := .slice ao ks.length c)
  have e2 : (k == 2) = false := by simpa using hk2
  clear hk2
  have e3 : (k == 3) = false := by simpa using hk3
  clear hk3
  have e4 : (k == 4) = false := by simpa using hk4
  clear hk4
  have e5 : (k == 5) = false := by simpa using hk5
  clear hk5
  change Calls Tryz.prog 104 #[.agg #[.int .i64 k, .string ⟨s.toArray⟩, .int .i64 m, .slice ao ks.length c]] w _
  go_enter Tryz.func104, Tryz.ntmps104
  go_wp2
  go_ret
  exact ⟨congrArg (fun b => Ending.returned (Value.bool b)) HX.out.symm, hX0.out⟩

set_option maxRecDepth 20000 in
set_option maxHeartbeats 4000000 in
theorem prg_step (hDec : Tst 104 99 (decB 97)) : Tst 64 (100) (prgB) := by
  intro t sl S w hG hS hF hk
  obtain ⟨k, s, m, ks⟩ := t
  obtain ⟨ao, c, rfl⟩ := (Lst.of hk).slice
  have hF0 := hF
  obtain ⟨hF1, hF2, hF3⟩ := hF0
  change ∀ t ∈ ks, Fit _ t at hF3
  change ks.length ≤ 20000 at hF1
  change s.length ≤ maxLen at hF2
  have hL := Lst.of hk
  have hkn : ks.length ≤ 20000 := hF1
  by_cases hk1 : k = 1
  · subst hk1
    have HR : Hid (prgB (.mk 1 s m ks) = (bareT (.mk 1 s m ks) && ks.all (decB 97))) := rfl
    have hX0 := Hx.start (w := w) (c0 := .int .i64 1) (c1 := .string ⟨s.toArray⟩) (c2 := .int .i64 m) (c3 := .slice ao ks.length c)
    have c1 := bareW hX0.out (.mk 1 s m ks) ao ks.length c
    change Calls Tryz.prog 64 #[.agg #[.int .i64 1, .string ⟨s.toArray⟩, .int .i64 m, .slice ao ks.length c]] w _
    go_enter Tryz.func64, Tryz.ntmps64
    go_wp2_with fail
    refine c1.mono ?_
    rintro e w1 ⟨rfl, hb1⟩
    have hX1 := hX0.next hb1
    clear c1
    obtain ⟨x0, x1, x2, x3⟩ := hX1.cells
    cases h1 : bareT (.mk 1 s m ks) with
    | false =>
      have HX : Hid (prgB (.mk 1 s m ks) = false) := HR.out.trans (by rw [h1]; try rfl)
      clear h1
      go_wp2
      go_ret
      exact ⟨congrArg (fun b => Ending.returned (Value.bool b)) HX.out.symm, hX1.out⟩
    | true =>
      have HR1 : Hid (prgB (.mk 1 s m ks) = ks.all (decB 97)) := HR.out.trans (by rw [h1]; try rfl)
      clear h1
      have c2 := everyW ent_dec hDec hG hS hF3 hF1 hL hX1.out
      go_wp2_with fail
      refine c2.mono ?_
      rintro e w2 ⟨rfl, hb2⟩
      have hX2 := hX1.next hb2
      clear c2
      clear x0 x1 x2 x3
      obtain ⟨x0, x1, x2, x3⟩ := hX2.cells
      have HX := HR1
      go_wp2
      go_ret
      exact ⟨congrArg (fun b => Ending.returned (Value.bool b)) HX.out.symm, hX2.out⟩
  have HX : Hid (prgB (.mk k s m ks) = false) := by simp [Hid, prgB, Tr.kind, hk1]
  have hX0 := Hx.start (w := w) (c0 := .int .i64 k) (c1 := .string ⟨s.toArray⟩) (c2 := .int .i64 m) (c3 := .slice ao ks.length c)
  have e1 : (k == 1) = false := by simpa using hk1
  clear hk1
  change Calls Tryz.prog 64 #[.agg #[.int .i64 k, .string ⟨s.toArray⟩, .int .i64 m, .slice ao ks.length c]] w _
  go_enter Tryz.func64, Tryz.ntmps64
  go_wp2
  go_ret
  exact ⟨congrArg (fun b => Ending.returned (Value.bool b)) HX.out.symm, hX0.out⟩
/-- The tests of trees of depth n. -/
structure Snd (n : Nat) : Prop where
  typ : Tst 137 n (snd n .typ)
  par : Tst 140 n (snd n .par)
  sig : Tst 124 n (snd n .sig)
  blk : Tst 125 n (snd n .blk)
  ifS : Tst 149 n (snd n .ifS)
  els : Tst 166 n (snd n .els)
  stm : Tst 141 n (snd n .stm)
  exp : Tst 150 n (snd n .exp)
theorem snds : ∀ n, Snd n
  | 0 => ⟨fun _ _ _ _ _ _ h => h.elim, fun _ _ _ _ _ _ h => h.elim, fun _ _ _ _ _ _ h => h.elim, fun _ _ _ _ _ _ h => h.elim, fun _ _ _ _ _ _ h => h.elim, fun _ _ _ _ _ _ h => h.elim, fun _ _ _ _ _ _ h => h.elim, fun _ _ _ _ _ _ h => h.elim⟩
  | n + 1 => by
    have S := snds n
    have hb := blk_step S.stm
    have hi := if_step S.exp S.blk S.els
    exact ⟨typ_step S.typ, par_step S.typ, sig_step S.par S.typ, hb, hi, els_step hb hi, stm_step S.typ S.exp S.blk hb hi, exp_step S.typ S.exp S.sig S.blk (cut_any S.exp)⟩
theorem dec_any (n : Nat) : Tst 104 (n + 2) (decB n) :=
  have S := snds (n + 1)
  dec_step (fld_step (snds n).typ) (met_step (snds n).sig) S.sig S.blk (rec_step S.par)
mutual
/-- What is small enough is not too deep, and its lists are not too long. -/
theorem fit_of_cnt : ∀ (t : Tr) (deep left l : Nat), cntT t deep left = some l → left ≤ 20000 → (∀ n, txtT n t) → Fit deep t
  | .mk k s m ks, deep, left, l, h, hl, ht => by
    simp only [cntT] at h
    split at h
    · cases h
    · rename_i hd
      obtain ⟨d, rfl⟩ : ∃ d, deep = d + 1 := ⟨deep - 1, by omega⟩
      have h1 := cntL_len ks d (left - 1) l h
      refine ⟨by simp only [Tr.kids]; omega, (ht 1).1, ?_⟩
      exact fit_of_cntL ks d (left - 1) l h (by omega) (fun n t hm => (ht (n + 1)).2 t hm)
theorem fit_of_cntL : ∀ (ts : List Tr) (deep left l : Nat), cntL ts deep left = some l → left ≤ 20000 → (∀ n, ∀ t ∈ ts, txtT n t) → ∀ t ∈ ts, Fit deep t
  | [], _, _, _, _, _, _, t, hm => by cases hm
  | u :: ts, deep, left, l, h, hl, ht, t, hm => by
    simp only [cntL] at h
    split at h
    · cases h
    · rename_i l1 h1
      rcases List.mem_cons.1 hm with he | hm
      · rw [he]; exact fit_of_cnt u deep left l1 h1 hl (fun n => ht n u (by simp))
      · exact fit_of_cntL ts deep l1 l h (by have := cntT_le u deep left l1 h1; omega) (fun n t h => ht n t (by simp [h])) t hm
end
theorem fit_of_small {t : Tr} (h : smallT t = true) (ht : ∀ n, txtT n t) : Fit 100 t := by
  simp only [smallT, Option.isSome_iff_exists] at h
  obtain ⟨l, h⟩ := h
  exact fit_of_cnt t 100 20000 l h (Nat.le_refl _) ht
set_option maxRecDepth 20000 in
set_option maxHeartbeats 1600000 in
/-- Sound. -/
theorem sound_any (t : Tr) (sl : Value) (S : Nat → Prop) (w : World) (hG : Gl w) (hS : ∀ b, S b → b < w.heap.size) (ht : ∀ n, txtT n t) (hk : KT w S t sl) :
    Calls Tryz.prog 30 #[tv t sl] w fun e w' => e = .returned (.bool (soundT t)) ∧ Below w.heap.size w w' := by
  obtain ⟨k, s, m, ks⟩ := t
  obtain ⟨ao, c, rfl⟩ := (Lst.of hk).slice
  have HR : Hid (soundT (.mk k s m ks) = (smallT (.mk k s m ks) && prgB (.mk k s m ks))) := rfl
  have hX0 := Hx.start (w := w) (c0 := .int .i64 k) (c1 := .string ⟨s.toArray⟩) (c2 := .int .i64 m) (c3 := .slice ao ks.length c)
  have c1 := small_any (.mk k s m ks) (.slice ao ks.length c) S _ (fun b hb => Nat.lt_of_lt_of_le (hS b hb) hX0.out.size) (hk.fr (fun b hb => hX0.out.block b (hS b hb)) (fun _ h => h))
  change Calls Tryz.prog 30 #[.agg #[.int .i64 k, .string ⟨s.toArray⟩, .int .i64 m, .slice ao ks.length c]] w _
  go_enter Tryz.func30, Tryz.ntmps30
  go_wp2_with fail
  refine c1.mono ?_
  rintro e w1 ⟨rfl, hb1⟩
  have hX1 := hX0.next hb1
  clear c1
  obtain ⟨x0, x1, x2, x3⟩ := hX1.cells
  cases h1 : smallT (.mk k s m ks) with
  | false =>
    have HX : Hid (soundT (.mk k s m ks) = false) := HR.out.trans (by rw [h1]; rfl)
    clear h1
    go_wp2
    go_ret
    exact ⟨congrArg (fun b => Ending.returned (Value.bool b)) HX.out.symm, hX1.out⟩
  | true =>
    have HX : Hid (soundT (.mk k s m ks) = prgB (.mk k s m ks)) := HR.out.trans (by rw [h1]; rfl)
    have c2 := (prg_step (dec_any 97)).at hG hS (fit_of_small h1 ht) hk hX1.out
    clear h1
    go_wp2_with fail
    refine c2.mono ?_
    rintro e w2 ⟨rfl, hb2⟩
    have hX2 := hX1.next hb2
    clear c2
    go_wp2
    go_ret
    exact ⟨congrArg (fun b => Ending.returned (Value.bool b)) HX.out.symm, hX2.out⟩
end Go.Proofs.YtbejkphekfbfnaaGreat
