/- reached: the walk. -/
import Derived.Test.YtimpmgbahgganaaHpG
namespace Go.Proofs.Ytimpmgbahgganaa
open Go.RowKit Go.Maps

section
variable {Y : Hh} {w : World} {h : Hs} {k : Nat}
theorem reach_ob (I : HInv h) {rs : List Int} {a : Nat} (hr : Reach h rs a) : ∃ t n, h.ob a = some (t, n) := by
  cases hr with
  | root _ hb => obtain ⟨t, n, f, i, p, O, _⟩ := I.base hb; exact ⟨t, n, O.ob⟩
  | step _ _ _ _ hb => obtain ⟨t, n, f, i, p, O, _⟩ := I.base hb; exact ⟨t, n, O.ob⟩
/-- A row without its last. -/
theorem row_pop {B : Nat} {e : TypeId} {g n cap : Nat} {xs : List Value} {u : Value} (ho : w.ownsRow B e 1 (.slice (some ⟨g, 0, none⟩) (n + 1) cap) (n + 1) (xs ++ [u])) : w.ownsRow B e 1 (.slice (some ⟨g, 0, none⟩) n cap) n xs := by
  have hl := ho.1
  simp at hl
  rcases ho.2 with ⟨h1, _⟩ | ⟨g', cap', cur, h1, h2, h3, h4, h5, h6, h7⟩
  · cases h1
  · cases h1
    refine ⟨by omega, .inr ⟨g, cap, cur, rfl, h2, h3, by omega, h5, h6, ?_⟩⟩
    have := congrArg (List.take (n * 1)) h7
    rw [List.take_take, show min (n * 1) ((n + 1) * 1) = n * 1 by omega] at this
    rw [this, List.take_append_of_le_length (by omega), List.take_of_length_le (by omega)]
theorem row_last {B : Nat} {v : Value} {st : List Int} {x : Int} (ho : w.ownsRow B 3 1 v (st ++ [x]).length (ints (st ++ [x]))) : ∃ g cap, v = .slice (some ⟨g, 0, none⟩) (st.length + 1) cap ∧ w.cell? ⟨g, st.length, none⟩ = some (.int .i64 x) ∧ g < w.heap.size ∧ st.length + 1 ≤ cap ∧ w.ownsRow B 3 1 (.slice (some ⟨g, 0, none⟩) st.length cap) st.length (ints st) := by
  obtain ⟨g, cap, e1, e2, _, _⟩ := row_cell ho (j := st.length) (u := .int .i64 x) (by simp [ints])
  rw [List.length_append, List.length_singleton] at e1 ho
  rw [e1, ints_snoc] at ho
  have hc : st.length + 1 ≤ cap ∧ g < w.heap.size := by
    rcases ho.2 with ⟨h1, _⟩ | ⟨g', cap', cur, h1, h2, h3, h4, _⟩
    · cases h1
    · cases h1; exact ⟨h4, lt_of_block h3⟩
  exact ⟨g, cap, e1, e2, hc.2, hc.1, row_pop ho⟩
/-- Between two rounds. -/
structure Mid (Y : Hh) (w wr : World) (h : Hs) (rs : List Int) (bf K0 K : Nat) (v : Value) (st : List Int) (F : Nat → Bool) (c : Nat) : Prop where
  own : wr.ownsRow w.heap.size 3 1 v st.length (ints st)
  map : FdMap wr bf c F
  inv : RInv h rs st F
  le : ∀ x ∈ st, x ≤ 9223372036854775807
  bel : Below w.heap.size w wr
  num : st.length + pot F h.s.ps ≤ K
  cnt : c + K ≤ K0
theorem Mid.under {wr w1 : World} {rs st : List Int} {bf K0 K c : Nat} {v : Value} {F : Nat → Bool} (M : Mid Y w wr h rs bf K0 K v st F c) (hb : Below wr.heap.size wr w1) : Mid Y w w1 h rs bf K0 K v st F c :=
  ⟨ownsRow_keep M.own fun g hg => hb.block g (M.own.lt g hg).2, M.map.keep (hb.block bf M.map.lt), M.inv, M.le, M.bel.trans (hb.mono M.bel.size), M.num, M.cnt⟩
theorem Mid.skip {wr : World} {rs st : List Int} {bf K0 K c g cap : Nat} {v : Value} {F : Nat → Bool} {x : Int} (M : Mid Y w wr h rs bf K0 K v (st ++ [x]) F c) (hv : wr.ownsRow w.heap.size 3 1 (.slice (some ⟨g, 0, none⟩) st.length cap) st.length (ints st)) (hx : ∀ a, baseA h x = some a → F a = true) :
    Mid Y w wr h rs bf K0 (K - 1) (.slice (some ⟨g, 0, none⟩) st.length cap) st F c :=
  ⟨hv, M.map, M.inv.skip hx, fun y hy => M.le y (by simp [hy]), M.bel, by have := M.num; simp at this; omega, by have := M.cnt; omega⟩
set_option maxHeartbeats 2000000 in
theorem reached_any (L : HLies Y w h k) (I : HInv h) {v : Value} {rs : List Int} (R : IntsAt w v rs) (hl : rs.length ≤ 2000000) :
    Calls Try.prog 39 #[Y.p, v] w fun e w' => ∃ bf F n, e = .returned (.map (some bf)) ∧ Hid (FdMap w' bf n F ∧ w.heap.size ≤ bf ∧ (∀ a, F a = true ↔ Reach h rs a) ∧ Below w.heap.size w w') := by
  have HL := hide L
  have HI := hide I
  have hR1 := R.below ((Below.refl _ w).alloc (Nat.le_refl _) (.map #[] 0))
  have hcl := clone_any hR1 (by omega)
  have hmm := @run_makeMap Try.prog
  have hle := hide R.le
  have hp := pot_le (fun _ => false) I.inv.row
  have hfit := I.inv.fits
  have hsm := I.inv.small
  have HP : Hid (rs.length + pot (fun _ => false) h.s.ps ≤ 2200000) := hide (by omega)
  clear L I R hR1 hp hfit hsm
  go_enter Try.func39, Try.ntmps39
  go_wp2_with fail
  refine hcl.mono ?_
  rintro e w1 ⟨v1, rfl, own1, hb1⟩
  have M0 : Mid Y w w1 h rs w.heap.size (rs.length + pot (fun _ => false) h.s.ps) (rs.length + pot (fun _ => false) h.s.ps) v1 rs (fun _ => false) 0 := by
    have hz : (w.alloc (.map #[] 0)).heap.size = w.heap.size + 1 := by simp
    refine ⟨⟨own1.1, ?_⟩, (fd_new w).keep (hb1.block _ (by omega)), rinv_new h rs, hle.out, ((Below.refl _ w).alloc (Nat.le_refl _) _).trans (hb1.mono (by omega)), Nat.le_refl _, by omega⟩
    rcases own1.2 with h1 | ⟨g, cap, cur, e1, e2, e3⟩
    · exact .inl h1
    · exact .inr ⟨g, cap, cur, e1, by omega, e3⟩
  have HM := hide M0
  clear M0 own1 hb1 hcl
  generalize rs.length + pot (fun _ => false) h.s.ps = K0 at HM HP
  go_wp2
  go_loopg [1] K0 (fun K vr wr => ∃ st F c, Hid (Mid Y w wr h rs w.heap.size K0 K vr st F c))
  case atStart => exact ⟨_, _, _, HM⟩
  case round =>
    obtain ⟨st, F, c, M⟩ := hrel
    rcases List.eq_nil_or_concat st with rfl | ⟨st', x, rfl⟩
    · obtain ⟨ao, cap, hv⟩ := row_form M.out.own
      subst hv
      go_wp2
      go_ret
      exact ⟨w.heap.size, F, c, rfl, M.out.map, Nat.le_refl _, M.out.inv.done, M.out.bel⟩
    · rw [List.concat_eq_append] at M
      obtain ⟨g, cap, hv, cx, hg, hcap, hpop⟩ := row_last M.out.own
      subst hv
      have hxm : x ≤ 9223372036854775807 := M.out.le x (by simp)
      have hn := M.out.num
      have hcn := M.out.cnt
      have hp0 := HP.out
      have hst : (st'.length : Int) ≤ 3000000 := by simp at hn; omega
      have hgk : gk - 1 < gk := by simp at hn; omega
      have hcap' : (st'.length : Int) + 1 ≤ (cap : Int) := by omega
      have HPp := hide hpop
      have Lr := HL.out.below M.out.bel
      clear hn hcn hp0 hpop hcap
      cases hb : baseA h x with
      | none =>
        have hc := base_none Lr HI.out hxm hb
        have f0 : F 0 = false := by
          cases hf : F 0 with
          | false => rfl
          | true =>
            obtain ⟨t, n, ho⟩ := reach_ob HI.out (M.out.inv.found 0 hf)
            rw [HI.out.ob0] at ho; cases ho
        have HB := hide hb
        clear Lr hb
        go_wp2_with fail
        refine hc.mono ?_
        rintro e w2 ⟨rfl, hb2⟩
        have M2 := M.out.under hb2
        have hlk := M2.map.look (a := 0) (by decide)
        rw [f0, show ((0 : Nat) : Int) = 0 from rfl] at hlk
        have M3 := hide ((M2.skip (ownsRow_keep HPp.out fun g hg => hb2.block g (HPp.out.lt g hg).2) (fun a ha => by rw [HB.out] at ha; cases ha)).under ((Below.refl _ w2).alloc (Nat.le_refl _) (.cells #[] 95)))
        clear M2 hc f0 hb2
        go_wp2
        go_roundg (gk - 1)
        case measure => exact hgk
        case rel => exact ⟨_, _, _, M3⟩
      | some a =>
        obtain ⟨t, n, f, i, p, O, _⟩ := HI.out.base hb
        have hc := base_some Lr HI.out hxm hb O.ob
        have ha : a ≤ 65536 := by have := O.aw2; have := O.pn; have := owords_pos f n; omega
        have HB := hide hb
        have HO := hide O
        clear Lr hb O
        cases hf : F a with
        | true =>
          have HF := hide hf
          go_wp2_with fail
          refine hc.mono ?_
          rintro e w2 ⟨rfl, hb2⟩
          have M2 := M.out.under hb2
          have hlk := M2.map.look ha
          rw [hf] at hlk
          have M3 := hide ((M2.skip (ownsRow_keep HPp.out fun g hg => hb2.block g (HPp.out.lt g hg).2) (fun a' ha' => by rw [HB.out] at ha'; cases ha'; exact HF.out)).under ((Below.refl _ w2).alloc (Nat.le_refl _) (.cells #[] 95)))
          clear M2 hc hf hb2
          go_wp2
          go_roundg (gk - 1)
          case measure => exact hgk
          case rel => exact ⟨_, _, _, M3⟩
        | false =>
          have HF := hide hf
          go_wp2_with fail
          refine hc.mono ?_
          rintro e w2 ⟨rfl, hb2⟩
          have M2 := M.out.under hb2
          have hlk := M2.map.look ha
          rw [hf] at hlk
          have hpop2 := ownsRow_keep (w' := w2) HPp.out fun g hg => hb2.block g (HPp.out.lt g hg).2
          obtain ⟨W3, hW3⟩ : ∃ W3, w2.alloc (.cells #[] 95) = W3 := ⟨_, rfl⟩
          have hb3 : Below w2.heap.size w2 W3 := by rw [← hW3]; exact (Below.refl _ w2).alloc (Nat.le_refl _) _
          have M3 := M2.under hb3
          have hpop3 := ownsRow_keep (w' := W3) hpop2 fun g hg => hb3.block g (hpop2.lt g hg).2
          obtain ⟨w4, hrun, hgrow, M4⟩ := M3.map.store ha (by have := M3.cnt; have := HP.out; omega)
          obtain ⟨es, cl, hmf⟩ := M3.map.form
          have hpop4 := ownsRow_keep (w' := w4) hpop3 fun g' hg' => hgrow.block g' (hpop3.lt g' hg').2 (fun e => by
            have e' := Option.some.inj e
            rcases hpop3.2 with ⟨h1, _⟩ | ⟨g2, cap2, cur, h1, _, h2, _⟩
            · cases h1
            · cases h1; simp [Value.ownBlock] at hg'; subst hg'; rw [e', hmf] at h2; cases h2)
          have hbel4 : Below w.heap.size w w4 := M3.bel.grown hgrow M3.bel.size (fun q hq => by cases hq; exact Nat.le_refl _)
          have hfo := follow_any HL.out HI.out hbel4 hpop4 (by omega) HO.out
          have HM3 := hide M3
          have HM4 := hide M4
          have HZ := hide hbel4
          have HP4 := hide hpop4
          clear M2 M3 M4 hbel4 hpop4 hpop3 hpop2 hmf hgrow hb3 hc hf hb2
          subst hW3
          go_wp2_with fail
          refine hfo.mono ?_
          rintro e w5 ⟨v5, rfl, own5, G5⟩
          have M5 : Mid Y w w5 h rs w.heap.size K0 (gk - 1) v5 (st' ++ outs h.s f n a (n * f.length)) (upd F a true) (c + 1) := by
            have hO := HO.out
            have hpn : 0 < p.n := by have := owords_pos f n; have := hO.pn; omega
            have hpf := pot_found (F := F) hO.ps hO.pa hpn HF.out
            have hol := outs_le h.s f n a (n * f.length)
            have how := owords_ge f n
            have hpn2 := hO.pn
            have hnum := HM3.out.num
            have hcnt := HM3.out.cnt
            rw [List.length_append, List.length_singleton] at hnum
            refine ⟨own5, HM4.out.keep (G5.block _ HM4.out.lt (fun e => ?_)), HM3.out.inv.take HI.out HB.out hO.ob hO.ty, fun y hy => ?_, G5.below HZ.out HZ.out.size (fun q hq => (HP4.out.lt q hq).1), ?_, ?_⟩
            · obtain ⟨es, cl, h1⟩ := HM4.out.form
              rcases HP4.out.2 with ⟨h2, _⟩ | ⟨g2, cap2, cur, h2, _, h3, _⟩
              · cases h2
              · cases h2; simp [Value.ownBlock] at e; rw [e, h1] at h3; cases h3
            · rcases List.mem_append.1 hy with hy | hy
              · exact HM3.out.le y (by simp [hy])
              · obtain ⟨i', _, _, _, rfl⟩ := mem_outs.1 hy
                exact wd_le HI.out _
            · rw [List.length_append]; omega
            · omega
          have HM5 := hide M5
          clear M5 own5 G5 hfo
          go_wp2
          go_roundg (gk - 1)
          case measure => exact hgk
          case rel => exact ⟨_, _, _, HM5⟩
end
end Go.Proofs.Ytimpmgbahgganaa
