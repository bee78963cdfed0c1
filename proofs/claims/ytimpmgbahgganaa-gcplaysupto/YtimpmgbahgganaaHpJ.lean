/- Collect: the walk. -/
import Derived.Test.YtimpmgbahgganaaHpI
namespace Go.Proofs.Ytimpmgbahgganaa
open Go.RowKit Go.Maps

section
variable {Y : Hh} {w : World} {h : Hs} {k : Nat}
theorem live_le (I : HInv h) : (liveL h.s.ps).length ≤ 65536 := by
  have h1 := liveL_le h.s.ps h.s.ps.length
  rw [List.take_length] at h1
  have := I.inv.pieces; omega
theorem live_addr (I : HInv h) {j a : Nat} (ha : (liveL h.s.ps)[j]? = some a) : a ≤ 65536 := by
  obtain ⟨⟨t, n⟩, ho⟩ := (live_iff I a).1 (List.mem_of_getElem? ha)
  obtain ⟨f, i, p, O⟩ := I.obj ho
  have := O.aw2; have := O.pn; have := owords_pos f n
  omega
/-- What a collection comes to. -/
def Colled (Y : Hh) (w w' : World) (h : Hs) (k : Nat) (rs : List Int) (y c : Int) : Prop :=
  ((∃ x ∈ rs, namesB h x = false) ∧ y = 0 ∧ c = 1 ∧ Below w.heap.size w w') ∨
  ((∀ x ∈ rs, namesB h x = true) ∧ c = 0 ∧ ∃ F Y', (∀ a, F a = true ↔ Reach h rs a) ∧ y = (gone h F).length ∧ HLies Y' w' (freeAll h (gone h F)) (k + 65536) ∧ HStep Y Y' w w')
set_option maxHeartbeats 2000000 in
theorem collect_any (L : HLies Y w h k) (I : HInv h) {v : Value} {rs : List Int} (R : IntsAt w v rs) (hl : rs.length ≤ 2000000) (hk : k ≤ 900000000) :
    Calls Try.prog 19 #[Y.p, v] w fun e w' => ∃ y c, e = two (y, c) ∧ Hid (Colled Y w w' h k rs y c) := by
  have HL := hide L
  have HI := hide I
  have HR := hide R
  obtain ⟨ao, cap, hv, hcells⟩ := R
  have HC := hide hcells
  have HV := hide hv
  subst hv
  have HlL := hide hl
  clear L I hcells
  generalize hn : rs.length = n at *
  have HN := hide hn
  clear hn
  go_enter Try.func19, Try.ntmps19
  go_wp2
  go_loopw [18] (fun ir wr => ∃ j : Nat, j ≤ n ∧ ir = .int .i64 j ∧ Hid (Below w.heap.size w wr ∧ ∀ (q : Nat) (x : Int), q < j → rs[q]? = some x → namesB h x = true)) (fun ir _ => n - (intOf ir).toNat)
  case atStart => exact ⟨0, Nat.zero_le _, rfl, Below.refl _ _, fun q x h0 => absurd h0 (Nat.not_lt_zero _)⟩
  case round =>
    obtain ⟨j, hj, rfl, hr⟩ := hrel
    by_cases hlt : j < n
    · obtain ⟨x, hx⟩ : ∃ x, rs[j]? = some x := ⟨rs[j]'(by rw [HN.out]; exact hlt), by simp⟩
      obtain ⟨hxm, g, o, rfl, hg, hcx⟩ := HC.out j x hx
      have hcx' : wr.cell? ⟨g, o + j, none⟩ = some (.int .i64 x) := by rw [World.cell?_of_block (a := ⟨g, o + j, none⟩) (hr.out.1.block g hg)]; exact hcx
      have hnm := names_any (HL.out.below hr.out.1) HI.out hxm
      have bj : (j : Int) < (n : Int) := by omega
      have HX := hide hx
      clear hcx hx
      cases hb : namesB h x with
      | false =>
        rw [hb] at hnm
        have HB := hide hb
        clear hb
        go_wp2_with fail
        refine hnm.mono ?_
        rintro e w1 ⟨rfl, hb1⟩
        go_wp2
        go_ret2
        exact ⟨0, 1, rfl, .inl ⟨⟨x, List.mem_of_getElem? HX.out, HB.out⟩, rfl, rfl, hr.out.1.trans (hb1.mono hr.out.1.size)⟩⟩
      | true =>
        rw [hb] at hnm
        have HB := hide hb
        clear hb
        go_wp2_with fail
        refine hnm.mono ?_
        rintro e w1 ⟨rfl, hb1⟩
        have hr1 := hide (show Below w.heap.size w w1 ∧ ∀ (q : Nat) (x : Int), q < j + 1 → rs[q]? = some x → namesB h x = true from ⟨hr.out.1.trans (hb1.mono hr.out.1.size), fun q y hq hy => by
          rcases Nat.lt_or_ge q j with h0 | h0
          · exact hr.out.2 q y h0 hy
          · obtain rfl : q = j := by omega
            rw [HX.out] at hy; cases hy; exact HB.out⟩)
        clear hb1 hnm
        go_wp2
        go_roundw
        case rel => exact ⟨j + 1, by omega, by go_num, hr1⟩
        case measure => simp [intOf]; omega
    · obtain rfl : j = n := by omega
      have hall : Hid (∀ x ∈ rs, namesB h x = true) := hide (fun x hx => by
        obtain ⟨q, hq⟩ := List.getElem?_of_mem hx
        exact hr.out.2 q x (by rw [← HN.out]; exact get_lt hq) hq)
      have hre := reached_any (HL.out.below hr.out.1) HI.out (HR.out.below (hr.out.1.mono (Nat.le_refl _))) (by rw [HN.out]; exact HlL.out)
      go_wp2_with fail
      refine hre.mono ?_
      rintro e w1 ⟨bf, F, c, rfl, hf⟩
      clear hre
      have hb1 : Below w.heap.size w w1 := hr.out.1.trans (hf.out.2.2.2.mono hr.out.1.size)
      have hbf : w.heap.size ≤ bf := Nat.le_trans hr.out.1.size hf.out.2.1
      have hli := hlive_any (HL.out.below hb1) HI.out (by omega)
      have HF := hide (show FdMap w1 bf c F ∧ (∀ a, F a = true ↔ Reach h rs a) from ⟨hf.out.1, hf.out.2.2.1⟩)
      have HB1 := hide hb1
      have Hbf := hide hbf
      clear hb1 hbf hf hr
      go_wp2_with fail
      refine hli.mono ?_
      rintro e w2 ⟨vl, rfl, own2, hb2⟩
      clear hli
      have hlive := live_le HI.out
      obtain ⟨al, cl, hvl⟩ := row_form own2
      have C0 : Cm Y w2 w2 h k F 0 := ⟨Y, (HL.out.below (HB1.out.trans (hb2.mono HB1.out.size))).mono (by omega), HStep.refl _ _⟩
      have HO2 := hide own2
      have HF2 := hide (HF.out.1.keep (w' := w2) (hb2.block bf HF.out.1.lt))
      have HB2 := hide hb2
      have HC0 := hide C0
      have hown : ∀ q, w.heap.size ≤ q → Hid (¬ Y.own q) := fun q hq h0 => by have := (HL.out.own_lt h0).2; omega
      subst hvl
      clear own2 C0 hb2
      have HLL := hide (show (liveL h.s.ps).length = (liveL h.s.ps).length from rfl)
      clear HLL
      generalize hm : (liveL h.s.ps).length = m at *
      have HM := hide hm
      clear hm
      go_wp2
      go_loopw [9, 33] (fun wt ir wr => ∃ j : Nat, j ≤ m ∧ ir = .int .i64 j ∧ wt = .int .i64 ((goneN h F j).length : Nat) ∧ Hid (Cm Y w2 wr h k F j)) (fun _ ir _ => m - (intOf ir).toNat)
      case atStart => exact ⟨0, Nat.zero_le _, rfl, by simp [goneN], HC0⟩
      case round =>
        obtain ⟨j, hj, rfl, rfl, hc⟩ := hrel
        by_cases hlt : j < m
        · obtain ⟨a, ha⟩ : ∃ a, (liveL h.s.ps)[j]? = some a := ⟨(liveL h.s.ps)[j]'(by rw [HM.out]; exact hlt), by simp⟩
          have haw := live_addr HI.out ha
          obtain ⟨Y', L', S'⟩ := hc.out.ex
          obtain ⟨g, cap2, e1, e2, _, _⟩ := row_cell HO2.out (addrs_get ha)
          obtain rfl : al = some ⟨g, 0, none⟩ := (Value.slice.inj e1).1
          have hgo : g < w2.heap.size ∧ w.heap.size ≤ g := by
            have h0 := HO2.out.lt g rfl
            exact ⟨h0.2, Nat.le_trans HB1.out.size h0.1⟩
          have ecell : wr.cell? ⟨g, j, none⟩ = some (.int .i64 a) := by
            rw [World.cell?_of_block (a := ⟨g, j, none⟩) (S'.block g hgo.1 (hown g hgo.2).out)]; exact e2
          have hfm : FdMap wr bf c F := HF2.out.keep (S'.block bf HF2.out.lt (hown bf Hbf.out).out)
          have hlk := hfm.look haw
          have bj : (j : Int) < (m : Int) := by omega
          have hgl := goneN_le (h := h) F j
          have Cu := hc.out.under ((Below.refl _ wr).alloc (Nat.le_refl _) (.cells #[] 95))
          have HA := hide ha
          clear L' S' e1 e2 hfm
          cases hfa : F a with
          | true =>
            rw [hfa] at hlk
            have HC := hide (Cu.stay HA.out hfa)
            have HG : Hid ((goneN h F (j + 1)).length = (goneN h F j).length) := hide (by rw [goneN_succ HA.out, if_pos hfa, List.append_nil])
            clear Cu hfa ha
            go_wp2
            go_roundw
            case rel => exact ⟨j + 1, by omega, by go_num, by rw [HG.out], HC⟩
            case measure => simp [intOf]; omega
          | false =>
            rw [hfa] at hlk
            obtain ⟨bo, XA, c0, hfree⟩ := Cu.free HI.out HA.out hfa (by omega)
            have HG : Hid ((goneN h F (j + 1)).length = (goneN h F j).length + 1) := hide (by rw [goneN_succ HA.out, if_neg (by rw [hfa]; simp)]; simp)
            clear Cu hfa ha
            generalize (goneN h F j).length = gl at *
            go_wp2_with fail
            refine hfree.mono ?_
            rintro e w4 ⟨rfl, c2, w5, hrun, hC5⟩
            clear hfree
            go_wp2_with (at_builtin; refine wpList_delete_eq rfl _ _ 73 3 rfl rfl rfl hrun ?_)
            go_wp2
            go_roundw
            case rel => exact ⟨j + 1, by omega, by go_num, by rw [HG.out]; go_num, hC5⟩
            case measure => simp [intOf]; omega
        · obtain rfl : j = m := by omega
          go_wp2
          go_ret2
          refine ⟨_, 0, rfl, .inr ⟨hall.out, rfl, F, ?_⟩⟩
          obtain ⟨Y', L', S'⟩ := hc.out.ex
          have hg : goneN h F j = gone h F := by rw [← HM.out]; exact goneN_all F
          rw [hg] at L' ⊢
          exact ⟨Y', HF.out.2, rfl, L'.mono (by omega), (HStep.of_below (HB1.out.trans (HB2.out.mono HB1.out.size))).trans S'⟩
end
end Go.Proofs.Ytimpmgbahgganaa
