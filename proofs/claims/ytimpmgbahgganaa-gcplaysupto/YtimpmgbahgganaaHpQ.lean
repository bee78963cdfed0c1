/- GcNumbers. -/
import Derived.Test.YtimpmgbahgganaaHpP
namespace Go.Proofs.Ytimpmgbahgganaa
open Go.RowKit Go.Maps

theorem cls1 : clsN 1 = 1 := by decide +kernel
def ns1 : As := markS (pushS (newS 100) 1) 1 1
def ns2 : As := markS (pushS ns1 1) 2 1
def ns3 : As := markS (pushS ns2 1) 3 1
theorem ns_a1 : allocS (newS 100) 1 = some (1, ns1) := by unfold allocS; rw [cls1]; rfl
theorem ns_a2 : allocS ns1 1 = some (2, ns2) := by unfold allocS; rw [cls1]; rfl
theorem ns_a3 : allocS ns2 1 = some (3, ns3) := by unfold allocS; rw [cls1]; rfl
def nH : Hs := makeH (makeH (makeH (newH [[0], [2]] 100) 0 1 1 ns1) 0 1 2 ns2) 1 1 3 ns3
/-- The heap of the three objects, with these words. -/
def nhv (l : List Int) : Hs := { nH with s := { nH.s with ws := l } }
theorem nh_len : nH.s.ws.length = 100 := by kernel_rfl
theorem nh_live (l : List Int) : liveL (nhv l).s.ps = [1, 2, 3] := by
  show liveL nH.s.ps = _
  kernel_rfl
theorem nh_ps : nH.s.ps = [⟨1, 1, 1⟩, ⟨2, 1, 1⟩, ⟨3, 1, 1⟩] := by kernel_rfl
theorem nh_b1 (l : List Int) : baseA (nhv l) 1 = some 1 := by
  show (hold nH.s.ps 1).bind _ = _
  rw [nh_ps]; kernel_rfl
theorem nh_b3 (l : List Int) : baseA (nhv l) 3 = some 3 := by
  show (hold nH.s.ps 3).bind _ = _
  rw [nh_ps]; kernel_rfl
theorem nh_ob (l : List Int) : (nhv l).ob 1 = some (0, 1) ∧ (nhv l).ob 2 = some (0, 1) ∧ (nhv l).ob 3 = some (1, 1) := ⟨rfl, rfl, rfl⟩
theorem nh_ty (l : List Int) : (nhv l).ty[0]? = some [false] ∧ (nhv l).ty[1]? = some [true] := ⟨rfl, rfl⟩
theorem nh_set1 (l : List Int) (v : Int) : setHP (nhv l) 1 v = (0, nhv (l.set 0 v)) := by
  rw [setHP_some (i := 0) (nh_b1 l) (nh_ob l).1 (nh_ty l).1 rfl, if_neg (by simp [ptrB])]
  rfl
theorem nh_set3 (l : List Int) : setHP (nhv l) 3 1 = (0, nhv (l.set 2 1)) := by
  rw [setHP_some (i := 0) (nh_b3 l) (nh_ob l).2.2 (nh_ty l).2 rfl, if_neg (by
    intro h
    have := h.2
    rw [names_iff.2 (.inr ⟨1, nh_b1 l⟩)] at this
    cases this)]
  rfl
theorem nh_reach {l : List Int} (hw : wd (nhv l).s 3 = 1) (a : Nat) : Reach (nhv l) [3] a ↔ a = 3 ∨ a = 1 := by
  constructor
  · intro hr
    induction hr with
    | root hx hb =>
      simp at hx; subst hx
      rw [nh_b3] at hb; cases hb
      exact .inl rfl
    | step _ ho hf hp hb ih =>
      rcases ih with rfl | rfl
      · rw [(nh_ob l).2.2] at ho; cases ho
        rw [(nh_ty l).2] at hf; cases hf
        have hi := ptr_lt hp
        simp at hi
        subst hi
        rw [hw, nh_b1] at hb; cases hb
        exact .inr rfl
      · rw [(nh_ob l).1] at ho; cases ho
        rw [(nh_ty l).1] at hf; cases hf
        simp [ptrB, Nat.mod_one] at hp
  · rintro (rfl | rfl)
    · exact .root (x := 3) (by simp) (nh_b3 l)
    · exact .step (i := 0) (.root (x := 3) (by simp) (nh_b3 l)) (nh_ob l).2.2 (nh_ty l).2 (by simp [ptrB]) (by rw [Nat.add_zero, hw]; exact nh_b1 l)
theorem nh_gone1 {l : List Int} (hw : wd (nhv l).s 3 = 1) {F : Nat → Bool} (hF : ∀ a, F a = true ↔ Reach (nhv l) [3] a) : gone (nhv l) F = [2] ∧ F 2 = false := by
  have f1 : F 1 = true := (hF 1).2 ((nh_reach hw 1).2 (.inr rfl))
  have f3 : F 3 = true := (hF 3).2 ((nh_reach hw 3).2 (.inl rfl))
  have f2 : F 2 = false := by
    cases h2 : F 2 with
    | false => rfl
    | true => have := (nh_reach hw 2).1 ((hF 2).1 h2); omega
  refine ⟨?_, f2⟩
  unfold gone
  rw [nh_live]
  simp [f1, f2, f3]
theorem nh_gone0 {l : List Int} {F : Nat → Bool} (hF : ∀ a, F a = true ↔ Reach (nhv l) [] a) : gone (nhv l) F = [1, 2, 3] ∧ F 2 = false := by
  have f : ∀ a, F a = false := fun a => by
    cases hf : F a with
    | false => rfl
    | true => exact (reach_nil ((hF a).1 hf)).elim
  refine ⟨?_, f 2⟩
  unfold gone
  rw [nh_live]
  simp [f]
/-- Behind the collection the second object is none. -/
theorem nh_none {l : List Int} (I : HInv (nhv l)) {F : Nat → Bool} (hf : F 2 = false) : baseA (freeAll (nhv l) (gone (nhv l) F)) 2 = none := by
  obtain ⟨I', ho, ht, _⟩ := gone_inv I F
  cases hb : baseA (freeAll (nhv l) (gone (nhv l) F)) 2 with
  | none => rfl
  | some a =>
    exfalso
    obtain ⟨t, n, f, i, p, O, _, h1, h2⟩ := I'.base hb
    have hO := O.ob
    rw [ho a] at hO
    split at hO
    · rename_i hFa
      have hpn := O.pn
      have hty := O.ty
      rw [ht] at hty
      have ha : a = 0 ∨ a = 1 ∨ a = 2 := by omega
      rcases ha with rfl | rfl | rfl
      · have := O.a1; omega
      · rw [(nh_ob l).1] at hO; cases hO
        rw [(nh_ty l).1] at hty; cases hty
        simp [owords] at hpn
        omega
      · rw [hf] at hFa; cases hFa
    · cases hO
theorem ints_row {w : World} {B : Nat} {v : Value} {l : List Int} (ho : w.ownsRow B 3 1 v l.length (ints l)) (hl : ∀ x ∈ l, x ≤ 9223372036854775807) : IntsAt w v l := by
  obtain ⟨ao, cap, hv⟩ := row_form ho
  refine ⟨ao, cap, hv, fun j x hx => ⟨hl x (List.mem_of_getElem? hx), ?_⟩⟩
  obtain ⟨g, c2, e1, e2, _⟩ := row_cell ho (j := j) (u := .int .i64 x) (by simp [ints, hx])
  rw [hv] at e1
  cases e1
  exact ⟨g, 0, rfl, (ho.lt g (by rw [hv]; rfl)).2, by rw [Nat.zero_add]; exact e2⟩
set_option maxHeartbeats 2000000 in
/-- GcNumbers. -/
theorem numbers_law (v : Int) (hv : v ≤ 9223372036854775807) (b : Bool) (w : World) : Calls Try.prog 5 #[.int .i64 v, .bool b] w fun e w' => e = .returned (.bool true) ∧ Below w.heap.size w w' := by
  obtain ⟨W1, hW1⟩ : ∃ W1, ((w.alloc (.cells #[.int .i64 0] 3)).alloc (.cells #[.int .i64 2] 3)).alloc (.cells #[.slice (some ⟨w.heap.size, 0, none⟩) 1 1, .slice (some ⟨w.heap.size + 1, 0, none⟩) 1 1] 62) = W1 := ⟨_, rfl⟩
  have hB1 : Below w.heap.size w W1 := by rw [← hW1]; exact (((Below.refl _ w).alloc (Nat.le_refl _) _).alloc (by simp) _).alloc (by simp; omega) _
  have hR : LaysAt W1 (.slice (some ⟨w.heap.size + 2, 0, none⟩) 2 2) [[0], [2]] := by
    have h0 : W1.heap[w.heap.size]? = some (.cells (ints [0]).toArray 3 (0, 0)) := by rw [← hW1, Below.heap_alloc _ _ _ (by simp; omega), Below.heap_alloc _ _ _ (by simp), heap_new _ _ rfl]; rfl
    have h1 : W1.heap[w.heap.size + 1]? = some (.cells (ints [2]).toArray 3 (0, 0)) := by rw [← hW1, Below.heap_alloc _ _ _ (by simp), heap_new _ _ (by simp)]; rfl
    have h2 : W1.heap[w.heap.size + 2]? = some (.cells #[.slice (some ⟨w.heap.size, 0, none⟩) 1 1, .slice (some ⟨w.heap.size + 1, 0, none⟩) 1 1] 62 (0, 0)) := by rw [← hW1, heap_new _ _ (by simp)]
    refine ⟨_, _, rfl, fun j f hf => ?_⟩
    match j, hf with
    | 0, hf =>
      simp at hf; subst hf
      exact ⟨w.heap.size + 2, 0, _, rfl, lt_of_block h2, by simp [World.cell?, h2], ints_block h0 (by intro x hx; simp at hx; omega) 1⟩
    | 1, hf =>
      simp at hf; subst hf
      exact ⟨w.heap.size + 2, 0, _, rfl, lt_of_block h2, by simp [World.cell?, h2], ints_block h1 (by intro x hx; simp at hx; omega) 1⟩
    | j + 2, hf => simp at hf
  have hnew := hp_new (n := 100) (by decide) hR (by decide)
  have HB := hide hB1
  clear hB1 hR
  rw [show ((100 : Nat) : Int) = 100 from rfl] at hnew
  subst hW1
  go_enter Try.func5, Try.ntmps5
  go_wp2_with fail
  refine hnew.mono ?_
  rintro e w1 ⟨H, rfl, P1⟩
  clear hnew
  go_wp2_with fail
  refine (awake_any w1).mono ?_
  rintro e w2 ⟨rfl, hb2⟩
  have hm1 := hp_make (P1.out.under hb2) (m := 0) (n := 1) (x := 1) (f := [false]) (s' := ns1) rfl (by decide) (by decide) (by decide) ns_a1
  clear P1 hb2
  go_wp2_with fail
  refine hm1.mono ?_
  rintro e w3 ⟨rfl, P3⟩
  have hm2 := hp_make P3.out (m := 0) (n := 1) (x := 2) (f := [false]) (s' := ns2) rfl (by decide) (by decide) (by decide) ns_a2
  clear P3 hm1
  go_wp2_with fail
  refine hm2.mono ?_
  rintro e w4 ⟨rfl, P4⟩
  have hm3 := hp_make P4.out (m := 1) (n := 1) (x := 3) (f := [true]) (s' := ns3) rfl (by decide) (by decide) (by decide) ns_a3
  clear P4 hm2
  go_wp2_with fail
  refine hm3.mono ?_
  rintro e w5 ⟨rfl, P5⟩
  clear hm3
  have Q5 := P5.out
  rw [show makeH (makeH (makeH (newH [[0], [2]] 100) 0 1 1 ns1) 0 1 2 ns2) 1 1 3 ns3 = nhv nH.s.ws from rfl] at Q5
  have I6 : HInv (nhv (nH.s.ws.set 0 2)) := Q5.inv.set 1 (by decide)
  have I7 : HInv (nhv ((nH.s.ws.set 0 2).set 0 v)) := I6.set 1 hv
  have I8 : HInv (nhv (((nH.s.ws.set 0 2).set 0 v).set 0 2)) := I7.set 1 (by decide)
  have I9 : HInv (nhv ((((nH.s.ws.set 0 2).set 0 v).set 0 2).set 2 1)) := I8.set 3 (by decide)
  have hwd : wd (nhv ((((nH.s.ws.set 0 2).set 0 v).set 0 2).set 2 1)).s 3 = 1 := by
    show ((((nH.s.ws.set 0 2).set 0 v).set 0 2).set 2 1)[2]?.getD 0 = 1
    rw [List.getElem?_set_self (by simp [nh_len])]; rfl
  have hs6 := hp_set Q5 (x := 1) (v := 2) (by decide) (by decide) (nh_set1 _ _) I6
  have HI7 := hide I7
  have HI8 := hide I8
  have HI9 := hide I9
  have HWD := hide hwd
  clear P5 Q5 I6 I7 I8 I9 hwd
  go_wp2_with fail
  refine hs6.mono ?_
  rintro e w6 ⟨rfl, P6⟩
  have hs7 := hp_set P6.out (x := 1) (v := v) (by decide) hv (nh_set1 _ _) HI7.out
  clear hs6 P6
  go_wp2_with fail
  refine hs7.mono ?_
  rintro e w7 ⟨rfl, P7⟩
  have hs8 := hp_set P7.out (x := 1) (v := 2) (by decide) (by decide) (nh_set1 _ _) HI8.out
  clear hs7 P7
  go_wp2_with fail
  refine hs8.mono ?_
  rintro e w8 ⟨rfl, P8⟩
  have hs9 := hp_set P8.out (x := 3) (v := 1) (by decide) (by decide) (nh_set3 _) HI9.out
  clear hs8 P8
  go_wp2_with fail
  refine hs9.mono ?_
  rintro e w9 ⟨rfl, P9⟩
  clear hs9
  generalize (((nH.s.ws.set 0 2).set 0 v).set 0 2).set 2 1 = l at *
  cases b with
  | false =>
    have hR9 : IntsAt (w9.alloc (.cells #[] 3)) (.slice (some ⟨w9.heap.size, 0, none⟩) 0 0) [] := ⟨_, _, rfl, fun j x hx => by simp at hx⟩
    have hco := hp_collect (P9.out.under ((Below.refl _ w9).alloc (Nat.le_refl _) (.cells #[] 3))) hR9 (by simp) (by omega) (by simp)
    clear P9 hR9
    go_wp2_with fail
    refine hco.mono ?_
    rintro e w10 ⟨F, hF, rfl, P10⟩
    obtain ⟨g1, g2⟩ := nh_gone0 hF
    rw [show (gone (nhv l) F).length = 3 by rw [g1]; rfl]
    have hba := hp_base_none P10.out (x := 2) (by decide) (nh_none HI9.out g2)
    have HP := hide P10.out.bel
    clear P10 hco hF g1 g2
    go_wp2_with fail
    refine hba.mono ?_
    rintro e w11 ⟨rfl, hb11⟩
    go_wp2
    go_ret
    exact ⟨rfl, HB.out.trans ((HP.out.trans (hb11.mono HP.out.size)).mono HB.out.size)⟩
  | true =>
    obtain ⟨W10, hW10⟩ : ∃ W10, (w9.alloc (.cells #[] 3)).alloc (.cells #[.int .i64 3] 3) = W10 := ⟨_, rfl⟩
    have hz10 : W10.heap.size = w9.heap.size + 2 := by rw [← hW10]; simp
    have own10 : W10.ownsRow w9.heap.size 3 1 (.slice (some ⟨w9.heap.size, 0, none⟩) 0 0) 0 [] := by rw [← hW10]; exact (World.ownsRow_made w9 #[] 0 (Nat.le_refl _) (Nat.zero_le _) rfl).alloc _
    obtain ⟨ga, capa, w11, hrun, hown11, hgrow, hat, hltg⟩ := run_app1 own10 (b := w9.heap.size + 1) (a := 3) (by rw [← hW10, heap_new _ _ (by simp)]) (by decide) (by omega)
    have hb11 : Below w9.heap.size w9 w11 := by
      have h0 : Below w9.heap.size w9 W10 := by rw [← hW10]; exact ((Below.refl _ w9).alloc (Nat.le_refl _) _).alloc (by simp) _
      exact h0.grown hgrow h0.size (fun q hq => by simp [Value.ownBlock] at hq; omega)
    have hR11 : IntsAt w11 (.slice (some ⟨ga, 0, none⟩) (0 + 1) capa) [3] := ints_row (B := w9.heap.size) (l := [3]) hown11 (by intro x hx; simp at hx; omega)
    have hco := hp_collect (P9.out.under hb11) hR11 (by simp) (by omega) (by intro x hx; simp at hx; subst hx; exact names_iff.2 (.inr ⟨3, nh_b3 l⟩))
    clear P9 hR11 hown11 hgrow hat hltg own10 hz10 hb11
    subst hW10
    go_wp2_with (at_builtin; refine wpList_append_eq rfl _ _ 31 rfl rfl rfl hrun ?_)
    refine hco.mono ?_
    rintro e w12 ⟨F, hF, rfl, P12⟩
    obtain ⟨g1, g2⟩ := nh_gone1 HWD.out hF
    rw [show (gone (nhv l) F).length = 1 by rw [g1]; rfl]
    have hba := hp_base_none P12.out (x := 2) (by decide) (nh_none HI9.out g2)
    have HP := hide P12.out.bel
    clear P12 hco hF g1 g2
    go_wp2_with fail
    refine hba.mono ?_
    rintro e w13 ⟨rfl, hb13⟩
    go_wp2
    go_ret
    exact ⟨rfl, HB.out.trans ((HP.out.trans (hb13.mono HP.out.size)).mono HB.out.size)⟩
end Go.Proofs.Ytimpmgbahgganaa
