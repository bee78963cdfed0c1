/- take: the least free slot, or a new one, for a range. -/
import Derived.Test.YtmkeahfdbmfajaaSxH
namespace Go.Proofs.Ytmkeahfdbmfajaa
open Go.RowKit
section
variable {w0 w : World} {B : Nat} {fr tk : List Nat} {un : List Int} {t : Int}
set_option maxHeartbeats 1000000 in
theorem count_any (V : Ps w0 w B fr tk un) : Calls Try.prog 18 #[.pointer (some ⟨B, 0, none⟩)] w fun e w' => e = .returned (.int .i64 (un.length : Nat)) ∧ w' = w := by
  obtain ⟨f, V⟩ := V
  obtain ⟨c2, z2, l2⟩ := V.cell (t := 2) (by omega)
  obtain ⟨ao, cap, hf⟩ := row_form V.row2
  rw [hf] at c2
  clear V hf
  go_enter Try.func18, Try.ntmps18
  go_wp2
  go_ret
  exact ⟨rfl, rfl⟩
/-- Where a slot's range ends is set. -/
theorem Pq.setU {f : Nat → Value} (V : Pq w0 w B f (L3 fr tk un)) {s : Nat} (e : Int) (hs : s < un.length) : ∃ g cap x, f 2 = .slice (some ⟨g, 0, none⟩) un.length cap ∧ w.cell? ⟨g, s, none⟩ = some x ∧ w.frozen? ⟨g, s, none⟩ = false ∧ g < w.heap.size ∧ Ps w0 (w.setCell ⟨g, s, none⟩ (.int .i64 e)) B fr tk (un.set s e) := by
  have hr := V.row2
  obtain ⟨g, cap, hf, c, z, l, _, _⟩ := row_int (i := s) (x := ku un s) hr (ku_get hs)
  refine ⟨g, cap, _, hf, c, z, l, f, (V.kp (t := 2) (by omega) (l := un.set s e) ((Kp.setCell _ _ _).mono (fun b hb => by rw [hb, hf]; rfl)) ?_).congr (L3_2 fr tk un _)⟩
  rw [hf] at hr ⊢
  rw [List.length_set, ints_set]
  exact row_set _ hr hs
theorem Pq.pushU {f : Nat → Value} (V : Pq w0 w B f (L3 fr tk un)) (e : Int) (hl : un.length ≤ 50000) : ∃ g2 cap w', (Builtin.append_ #[23, 23] 23 #[f 2, .slice (some ⟨w.heap.size, 0, none⟩) 1 1]).run Try.prog (w.alloc (.cells #[.int .i64 e] 3)) = .ok (.slice (some ⟨g2, 0, none⟩) (un.length + 1) cap) w' ∧
    w'.cell? ⟨B, 2, none⟩ = some (f 2) ∧ w'.frozen? ⟨B, 2, none⟩ = false ∧ B < w'.heap.size ∧ Ps w0 (w'.setCell ⟨B, 2, none⟩ (.slice (some ⟨g2, 0, none⟩) (un.length + 1) cap)) B fr tk (un ++ [e]) := by
  obtain ⟨g2, cap, w3, hr, c3, z3, l3, V3⟩ := V.pushI (t := 2) (by omega) e (show un.length ≤ 100000 by omega)
  exact ⟨g2, cap, w3, hr, c3, z3, l3, _, V3.congr (L3_2 fr tk un _)⟩
set_option maxRecDepth 20000 in
set_option maxHeartbeats 4000000 in
theorem take_any {en : Int} (V : Ps w0 w B fr tk un) (I : Iv fr tk un t) (hg : ∀ a ∈ tk, t < ku un a) (hl : un.length ≤ 40000) : Calls Try.prog 17 #[.pointer (some ⟨B, 0, none⟩), .int .i64 en] w fun e w' => e = .returned (.int .i64 (lst un t : Nat)) ∧ ∃ fr' tk', Ps w0 w' B fr' tk' (gv un (lst un t) en) ∧ Iv fr' tk' (gv un (lst un t) en) t := by
  have hlen := I.len
  have HCnt := hide (count_any V)
  have HV := hide V
  obtain ⟨f, V⟩ := V
  obtain ⟨c0, z0, l0⟩ := V.cell (t := 0) (by omega)
  obtain ⟨c2, z2, _⟩ := V.cell (t := 2) (by omega)
  obtain ⟨ao, cap, hf⟩ := row_form V.row0
  by_cases h0 : fr.length = 0
  · have hfr : fr = [] := List.length_eq_zero_iff.mp h0
    subst hfr
    have hls := I.none hg rfl
    rw [hls, show gv un un.length en = un ++ [en] from if_neg (Nat.lt_irrefl _)]
    obtain ⟨g2, cp, w3, hr, c3, z3, l3, V3⟩ := V.pushU en (by omega)
    have HR := hide hr
    have HP := hide (pusht_any (x := un.length) V3 (I.keep2 en) (by omega) (fun a ha => by have := I.bt a ha; simp; omega) (by simp))
    have HM := hide (fun (l : List Nat) => I.more (l := l) en)
    rw [hf] at c0
    clear V3 hr V hf I hg hls hlen
    generalize un.length = m at *
    rw [show ([] : List Nat).length = 0 from rfl] at c0
    go_enter Try.func17, Try.ntmps17
    go_wp2_with (first
      | (go_at_call 18; refine HCnt.out.mono ?_; rintro e w2 ⟨rfl, rfl⟩)
      | (go_at_call 27; refine (qlen_any (n := 0)).mono ?_; rintro e w2 ⟨rfl, rfl⟩)
      | (refine wpList_append_eq (by rfl) _ _ 23 (by rfl) (by rfl) (by rfl) HR.out ?_)
      | (go_at_call 29; refine HP.out.mono ?_; rintro e w4 ⟨⟨v4, rfl⟩, l4, h4, h5, V4⟩; clear HP; have H4 := hide (And.intro V4 (HM.out l4 h4 h5)); clear h4 h5 V4))
    go_ret
    exact ⟨rfl, [], l4, H4.out.1, H4.out.2⟩
  · obtain ⟨s, hs⟩ : ∃ s, fr.getD 0 0 = s := ⟨_, rfl⟩
    have hls := I.least hg (by omega)
    rw [hs] at hls
    have hsb : s < un.length := by rw [← hs]; exact I.bf _ (mem0 (by omega))
    rw [hls, show gv un s en = un.set s en from if_pos hsb]
    have HP := hide (popf_any HV.out I.hf (by omega) (by omega))
    rw [hs] at HP
    have HG := hide (fun (fr' : List Nat) (l : List Nat) => I.give (s := s) (fr' := fr') (l := l) en)
    have HK := hide (fun (fr' : List Nat) => I.keep (s := s) (fr' := fr') en)
    have HB := hide (fun a (ha : a ∈ tk) => I.bt a ha)
    have b0 : (0 : Int) < (fr.length : Int) := by omega
    have bs : (s : Int) < (un.length : Int) := by omega
    have HSB := hide hsb
    have HL := hide (show tk.length ≤ 40000 by omega)
    have hta := ta_int s
    rw [hf] at c0
    clear hf V I hg hls hlen hs hsb hl
    go_enter Try.func17, Try.ntmps17
    go_wp2_with (first
      | (go_at_call 18; refine HCnt.out.mono ?_; rintro e w2 ⟨rfl, rfl⟩)
      | (go_at_call 27; refine (qlen_any (n := fr.length)).mono ?_; rintro e w2 ⟨rfl, rfl⟩)
      | (go_at_call 30; refine HP.out.mono ?_; rintro e w3 ⟨rfl, fr3, h3, h3', f3, V3⟩; clear HP
         obtain ⟨c4, _, l4⟩ := V3.cell (t := 2) (by omega)
         obtain ⟨gu, cu, xu, hfu, cs, zs', ls, VS⟩ := V3.setU en HSB.out
         rw [hfu] at c4
         have H3 := hide (And.intro h3 h3')
         have HPU := hide (pusht_any (x := s) VS (HK.out fr3 h3) (by have := HL.out; omega) (fun a ha => by rw [List.length_set]; exact HB.out a ha) (by rw [List.length_set]; exact HSB.out))
         clear h3 h3' hfu V3 VS)
      | (go_at_call 29; refine HPU.out.mono ?_; rintro e w4 ⟨⟨v4, rfl⟩, l4, h4, h5, V4⟩; clear HPU; have H4 := hide (And.intro V4 (HG.out fr3 l4 H3.out.1 H3.out.2 h4 h5)); clear h4 h5 V4))
    go_ret
    exact ⟨rfl, fr3, l4, H4.out.1, H4.out.2⟩
end
end Go.Proofs.Ytmkeahfdbmfajaa
