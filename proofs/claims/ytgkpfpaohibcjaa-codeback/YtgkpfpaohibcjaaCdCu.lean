/- CodeCuts. -/
import Derived.Test.YtgkpfpaohibcjaaCdAw
namespace Go.Proofs.Ytgkpfpaohibcjaa
open Go.RowKit
theorem SlAt.inL {α : Type} {k B : Nat} {P : World → List Value → α → Prop} {Q : α → Prop} {w : World} {v : Value} {l : List α} (h : SlAt k P B w v l) (hq : ∀ cs x, P w cs x → Q x) : InL Q l := by
  obtain ⟨ao, cap, _, h2, h3⟩ := h
  refine ⟨h2, fun x hx => ?_⟩
  obtain ⟨j, hj⟩ := List.getElem?_of_mem hx
  obtain ⟨g, o, cs, _, _, _, h7⟩ := h3 j x hj
  exact hq cs x h7
theorem PgAt.inP {B : Nat} {w : World} {v1 v2 v3 v4 : Value} {p : Pg} (h : PgAt B w v1 v2 v3 v4 p) (hs : sndP p = true) : InP p := by
  have hi : ∀ cs x, IntP w cs x → In64 x := fun cs x h => h.2
  have hl : ∀ cs x, LstP B w cs x → InL In64 x := fun cs x ⟨v, _, h2⟩ => h2.inL hi
  refine ⟨h.ty.inL hl, h.fu.inL fun cs x ⟨a, b, c, d, _, h2, h3, h4, h5, h6⟩ => ⟨h2, h3.inL hi, h4.inL hi, h5.inL hi, h6.inL fun cs x h => h.2⟩, h.ta.inL hl, ?_⟩
  have := h.st.inL (Q := fun _ => True) fun _ _ _ => trivial
  exact ⟨this.1, fun s hs' => by have := sndP_st hs s hs'; unfold InS; omega⟩
theorem BytesAt.cut {B : Nat} {w : World} {ao : Option Addr} {cap : Nat} {l : By} (h : BytesAt B w (.slice ao l.length cap) l) {k : Nat} (hk : k ≤ l.length) : BytesAt B w (.slice ao k cap) (l.take k) := by
  obtain ⟨a, c, h1, h2, h3, h4, h5, h6⟩ := h
  cases h1
  have hl : (l.take k).length = k := by rw [List.length_take]; omega
  refine ⟨ao, cap, by rw [hl], by rw [hl]; omega, h3, h4, h5, fun j b hb => h6 j b ?_⟩
  have := get_lt hb
  rw [hl] at this
  rw [List.getElem?_take, if_pos this] at hb
  exact hb
theorem pgE_pos (p : Pg) : 3 ≤ (pgE p).length := by simp only [pgE, hdE, List.length_append, List.length_cons, List.length_nil]; omega
set_option maxRecDepth 100000 in
set_option maxHeartbeats 2000000 in
theorem cuts_law {B : Nat} {w : World} {v1 v2 v3 v4 : Value} {p : Pg} (R : PgAt B w v1 v2 v3 v4 p) (hB : B ≤ w.heap.size) (n : Nat) (hn : n < 65536) (m : UInt8) :
    Calls Try.prog 6 #[.agg #[v1, v2, v3, v4], .int .u16 n, .int .u8 m.toNat] w fun e w' => e = .returned (.bool true) ∧ Below w.heap.size w w' := by
  obtain ⟨W1, hW1⟩ : ∃ W1, w.alloc (.cells #[v1, v2, v3, v4] 27) = W1 := ⟨_, rfl⟩
  have B1 := hide (show Below w.heap.size w W1 from hW1 ▸ (Below.refl _ _).alloc (Nat.le_refl _) _)
  have hb1 : W1.heap[w.heap.size]? = some (.cells #[v1, v2, v3, v4] 27 (0, 0)) := hW1 ▸ heap_new _ _ rfl
  have k0 : W1.cell? ⟨w.heap.size, 0, none⟩ = some v1 := cell_of hb1 rfl
  have k1 : W1.cell? ⟨w.heap.size, 1, none⟩ = some v2 := cell_of hb1 rfl
  have k2 : W1.cell? ⟨w.heap.size, 2, none⟩ = some v3 := cell_of hb1 rfl
  have k3 : W1.cell? ⟨w.heap.size, 3, none⟩ = some v4 := cell_of hb1 rfl
  have C1 := hide (encode_any (R.keep (Nat.le_refl _) (fun j hj => B1.out.block j (Nat.lt_of_lt_of_le hj hB))) (Nat.le_trans hB B1.out.size))
  have HIN := hide (show sndP p = true → InP p from R.inP)
  have AW := hide awake_any
  obtain ⟨a1, n1, hv1, _⟩ := R.ty
  obtain ⟨a2, n2, hv2, _⟩ := R.fu
  obtain ⟨a3, n3, hv3, _⟩ := R.ta
  obtain ⟨a4, n4, hv4, _⟩ := R.st
  subst hv1 hv2 hv3 hv4
  have HNn := hide hn
  clear R hB hb1 hn
  generalize hm8 : ((m.toNat : Nat) : Int) = mi at *
  have HM8 := hide hm8
  clear hm8
  go_enter Try.func6, Try.ntmps6
  go_wp2_with fail
  refine C1.out.mono ?_
  rintro e w2 ⟨he, hb2⟩
  have HB2 := hide (B1.out.trans (hb2.mono B1.out.size))
  clear hb2 C1 hW1 k0 k1 k2 k3
  rcases he with ⟨_, rfl⟩ | ⟨_, _, rfl⟩ | ⟨hsn, hle, v, rfl, hrow⟩
  · go_wp2_with fail
    refine (AW.out w2).mono ?_
    rintro e w3 ⟨rfl, hb3⟩
    have HB3 := hide (HB2.out.trans (hb3.mono HB2.out.size))
    clear hb3
    go_wp2_with fail
    refine (AW.out w3).mono ?_
    rintro e w4 ⟨rfl, hb4⟩
    have HB4 := hide (HB3.out.trans (hb4.mono HB3.out.size))
    clear hb4
    go_wp2
    go_ret
    exact ⟨rfl, HB4.out⟩
  · go_wp2_with fail
    refine (AW.out w2).mono ?_
    rintro e w3 ⟨rfl, hb3⟩
    have HB3 := hide (HB2.out.trans (hb3.mono HB2.out.size))
    clear hb3
    go_wp2_with fail
    refine (AW.out w3).mono ?_
    rintro e w4 ⟨rfl, hb4⟩
    have HB4 := hide (HB3.out.trans (hb4.mono HB3.out.size))
    clear hb4
    go_wp2
    go_ret
    exact ⟨rfl, HB4.out⟩
  · have HI := hide (HIN.out hsn)
    have hpos := pgE_pos p
    have HROW := hide hrow
    obtain ⟨va, vc, hv⟩ := row_form hrow
    subst hv
    have hcapm : (pgE p).length ≤ vc ∧ ∃ g, va = some ⟨g, 0, none⟩ ∧ g < w2.heap.size := by
      rcases hrow.2 with ⟨h1, h2⟩ | ⟨g, cap, cur, h1, _, h3, h4, _⟩
      · omega
      · cases h1; exact ⟨h4, g, rfl, lt_of_block h3⟩
    obtain ⟨hcap, vg, rfl, hvg⟩ := hcapm
    have HLE := hide hle
    generalize hE : pgE p = E at *
    have HE := hide hE
    clear hE hrow HIN hsn
    go_wp2_with fail
    refine (AW.out w2).mono ?_
    rintro e w3 ⟨rfl, hb3⟩
    have HB3 := hide (HB2.out.trans (hb3.mono HB2.out.size))
    have R3 := hide (show w3.ownsRow _ 5 1 (.slice (some ⟨vg, 0, none⟩) E.length vc) E.length (Lib.byteCells E) from ownsRow_keep HROW.out fun q hq => hb3.block q (HROW.out.lt q hq).2)
    clear hb3 HROW hvg
    obtain ⟨k, hk⟩ : ∃ k, n % E.length = k := ⟨_, rfl⟩
    have hkl : k < E.length := by rw [← hk]; exact Nat.mod_lt _ (by omega)
    have C4 := hide (decode_any ((BytesAt.of_row R3.out).cut (Nat.le_of_lt hkl)) (Nat.le_refl _))
    have HD3 := hide (show (decP (E.take k)).2 = 3 from by have := dec_cut HI.out (n := k) (by rw [HE.out]; exact HLE.out) (by rw [HE.out]; exact hkl); rw [HE.out] at this; exact this)
    rw [HD3.out] at C4
    have hnm : (n : Int) % (E.length : Int) = (k : Int) := by rw [← hk]; omega
    have hnt : Int.tmod (n : Int) (E.length : Int) = (k : Int) := by rw [Int.tmod_eq_emod_of_nonneg (by omega)]; exact hnm
    have hkc : (k : Int) ≤ (vc : Int) := by omega
    have hkL : (k : Int) < (E.length : Int) := by omega
    have hE0 : (E.length : Int) ≠ 0 := by omega
    have hw : wrap64 (n : Int) = (n : Int) := by have h1 : (n : Int) < 65536 := (by have := HNn.out; omega); clear hnm hnt hkc hkL hE0 hk; go_arith
    have HK := hide hk
    clear hk hle hpos hcap
    generalize hL : E.length = L at *
    have HL := hide hL
    clear hL
    generalize E.take k = T at *
    go_wp2_with fail
    refine C4.out.mono ?_
    rintro e w4 ⟨x1, x2, x3, x4, rfl, PA4, hb4⟩
    obtain ⟨b1, m1, hx1, _⟩ := PA4.ty
    obtain ⟨b2, m2, hx2, _⟩ := PA4.fu
    obtain ⟨b3, m3, hx3, _⟩ := PA4.ta
    obtain ⟨b4, m4, hx4, _⟩ := PA4.st
    subst hx1 hx2 hx3 hx4
    generalize (decP T).1.ty.length = y1 at *
    generalize (decP T).1.fu.length = y2 at *
    generalize (decP T).1.ta.length = y3 at *
    generalize (decP T).1.st.length = y4 at *
    have R4 := hide (show w4.ownsRow _ 5 1 (.slice (some ⟨vg, 0, none⟩) L vc) L (Lib.byteCells E) from ownsRow_keep R3.out fun q hq => hb4.block q (R3.out.lt q hq).2)
    have HB4 := hide (HB3.out.trans (hb4.mono HB3.out.size))
    clear PA4 hb4 C4 HD3 R3 HB3 hnm hnt hw hkc
    obtain ⟨W5, hW5⟩ : ∃ W5, w4.alloc (.cells #[.slice b1 y1 m1, .slice b2 y2 m2, .slice b3 y3 m3, .slice b4 y4 m4] 27) = W5 := ⟨_, rfl⟩
    have R5 := hide (show W5.ownsRow _ 5 1 (.slice (some ⟨vg, 0, none⟩) L vc) L (Lib.byteCells E) from hW5 ▸ R4.out.alloc _)
    have HB5 := hide (show Below w.heap.size w W5 from hW5 ▸ HB4.out.alloc HB4.out.size _)
    obtain ⟨W6, hW6⟩ : ∃ W6, W5.alloc (.cells #[] 5) = W6 := ⟨_, rfl⟩
    have hz6 : W6.heap.size = W5.heap.size + 1 := by rw [← hW6]; simp
    have R6 := hide (show W6.ownsRow _ 5 1 (.slice (some ⟨vg, 0, none⟩) L vc) L (Lib.byteCells E) from hW6 ▸ R5.out.alloc _)
    have HB6 := hide (show Below w.heap.size w W6 from hW6 ▸ HB5.out.alloc HB5.out.size _)
    have O6 := hide (show W6.ownsRow W5.heap.size 5 1 (.slice (some ⟨W5.heap.size, 0, none⟩) 0 0) 0 [] from ⟨rfl, .inr ⟨W5.heap.size, 0, #[], rfl, Nat.le_refl _, by rw [← hW6]; exact heap_new _ _ rfl, Nat.le_refl _, by decide, rfl, rfl⟩⟩)
    obtain ⟨i0, hi, hz0, hz1, hz2⟩ := info_parts Try.info5
    obtain ⟨g7, c7, w7, hrun7, hown7, hgrow7, hat7, hlt7⟩ := run_append_lies (P := Try.prog) W6 28 28 W5.heap.size 5 i0 _ 1 1 Try.underlying28 hi hz0 hz1 hz2 rfl (by decide) _ 0 [] O6.out ⟨vg, 0, none⟩ L vc (Lib.byteCells E) (by rw [Lib.byteCells_length, HL.out, Nat.mul_one]) (R6.out.cells (g := vg) rfl) (fun u hu => by simp only [Lib.byteCells, List.mem_map] at hu; obtain ⟨x, _, rfl⟩ := hu; rfl) (by omega) (by have := HLE.out; simp only [MB] at this; simp only [maxLen]; omega) (by have := HLE.out; simp only [MB] at this; omega) (by rw [hz6]; omega) _ rfl
    rw [Nat.zero_add] at hrun7 hown7
    rw [List.nil_append] at hown7
    have HR7 := hide hrun7
    have HB7 := hide (show Below w.heap.size w w7 from Below.grown HB6.out hgrow7 (by have := HB5.out.size; rw [hz6]; omega) (fun q hq => by cases hq; exact HB5.out.size))
    obtain ⟨W8, hW8⟩ : ∃ W8, w7.alloc (.cells #[.int .u8 mi] 5) = W8 := ⟨_, rfl⟩
    have O8 := hide (show W8.ownsRow W5.heap.size 5 1 (.slice (some ⟨g7, 0, none⟩) L c7) L (Lib.byteCells E) from hW8 ▸ hown7.alloc _)
    have HB8 := hide (show Below w.heap.size w W8 from hW8 ▸ HB7.out.alloc HB7.out.size _)
    obtain ⟨g9, c9, w9, hrun9, hown9, hgrow9, hat9, hlt9⟩ := own_put O8.out (b := w7.heap.size) (a := mi) (by rw [← hW8]; exact heap_new _ _ rfl) (by have := HLE.out; simp only [MB] at this; omega) (by have h1 := hgrow7.size; have h2 : W8.heap.size = w7.heap.size + 1 := (by rw [← hW8]; simp); omega) 28
    have HR9 := hide hrun9
    have HB9 := hide (show Below w.heap.size w w9 from Below.grown HB8.out hgrow9 HB8.out.size (fun q hq => by have := (O8.out.lt q hq).1; have := HB5.out.size; omega))
    have O9 := hide (show w9.ownsRow W5.heap.size 5 1 (.slice (some ⟨g9, 0, none⟩) (L + 1) c9) (E ++ [m]).length (Lib.byteCells (E ++ [m])) from by
      rw [List.length_append, List.length_singleton, HL.out, Lib.byteCells, List.map_append]
      rw [← HM8.out] at hown9
      exact hown9)
    have C9 := hide (decode_any (BytesAt.of_row O9.out) (Nat.le_refl _))
    have HD9 := hide (show (decP (E ++ [m])).2 = 3 ∨ (decP (E ++ [m])).2 = 13 from by have := dec_more HI.out m; rwa [HE.out] at this)
    have hz5 : w4.heap.size < W5.heap.size := by rw [← hW5]; simp
    clear hown7 hgrow7 hat7 hlt7 hown9 hgrow9 hat9 hlt9 hi hz0 hz1 hz2 hz6 O6 O8 O9 R4 R5 R6 HB4 HB5 HB6 HB7 HB8 hrun7 hrun9
    go_wp2_with (at_builtin; first | (refine wpList_append_eq rfl _ _ 28 28 rfl rfl rfl HR7.out ?_) | (refine wpList_append_eq rfl _ _ 28 28 rfl rfl rfl HR9.out ?_))
    refine C9.out.mono ?_
    rintro e w10 ⟨x1, x2, x3, x4, rfl, PA4, hb4⟩
    obtain ⟨b1, m1, hx1, _⟩ := PA4.ty
    obtain ⟨b2, m2, hx2, _⟩ := PA4.fu
    obtain ⟨b3, m3, hx3, _⟩ := PA4.ta
    obtain ⟨b4, m4, hx4, _⟩ := PA4.st
    subst hx1 hx2 hx3 hx4
    have HB10 := hide (HB9.out.trans (hb4.mono HB9.out.size))
    have HB11 := hide (show Below w.heap.size w (w10.alloc (.cells #[.slice b1 (decP (E ++ [m])).1.ty.length m1, .slice b2 (decP (E ++ [m])).1.fu.length m2, .slice b3 (decP (E ++ [m])).1.ta.length m3, .slice b4 (decP (E ++ [m])).1.st.length m4] 27)) from HB10.out.alloc HB10.out.size _)
    clear PA4 hb4 C9 HB9 HB10
    generalize (decP (E ++ [m])).1.ty.length = y1 at *
    generalize (decP (E ++ [m])).1.fu.length = y2 at *
    generalize (decP (E ++ [m])).1.ta.length = y3 at *
    generalize (decP (E ++ [m])).1.st.length = y4 at *
    rcases HD9.out with h9 | h9
    · rw [h9]
      clear h9 HD9
      go_wp2
      go_ret
      exact ⟨rfl, HB11.out⟩
    · rw [h9]
      clear h9 HD9
      go_wp2
      go_ret
      exact ⟨rfl, HB11.out⟩
end Go.Proofs.Ytgkpfpaohibcjaa
