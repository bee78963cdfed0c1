/- declare: a table's declarations, or what is wrong with it. -/
import Derived.Test.YtbejkphekfbfnaaGreatDcG
namespace Go.Proofs.YtbejkphekfbfnaaGreat
open Go.RowKit Go.Maps
attribute [local go_sem ↓] Go.wp_at_zero Go.wp_at_succ

theorem wpList_lenE {P : Program} {w : World} {ops : Array Oper} {rest : List Oper} {o : Oper} {a : Act} {Q : Exit → Act → World → Prop} (hgd : o.guard = none) (s : Operand) (t : TypeId)
    (ho : o.op = .call { callee := .builtin .len, args := #[s], argTypes := #[t] }) {v1 v : Value} {w' : World} (hs : a.eval s = v1) (hr : (Builtin.len_ #[t] o.type #[v1]).run P w = .ok v w')
    (h : wpList P ops Q rest (a.put o.dst v) w') : wpList P ops Q (o :: rest) a w := by
  refine wpList_plain hgd fun _ hK => ?_
  unfold Oper.wp execOp
  simp only [ho, resolve, invoke, builtin, Sem.run_bind, Sem.run_pure, Result.andThen_ok, List.map_toArray, List.map_cons, List.map_nil, hs, hr]
  exact hK _ _ h
/-- What is wrong with a table. -/
def errP (ds : List Dc) : Int :=
  if 1024 < ds.length then 4 else if ds.all smallP = false then 4 else if ds.all dsP = false then 2 else if ¬ (ds.map Dc.name).Nodup then 5 else if ds.all (fitP ds) = false then 5 else 0
def DecO (ds : List Dc) (w : World) (e : Ending) (w' : World) : Prop := Below w.heap.size w w' ∧ ((errP ds = 0 ∧ ∃ b, e = .returned (.tuple #[.map (some b), .int .i64 0]) ∧ DX w' b ds) ∨ (errP ds ≠ 0 ∧ e = .returned (.tuple #[.map none, .int .i64 (errP ds)])))
theorem DecO.bad {ds : List Dc} {w w' : World} {x : Int} (h : Hid (errP ds = x)) (hx : x ≠ 0) (hb : Below w.heap.size w w') : DecO ds w (.returned (.tuple #[.map none, .int .i64 x])) w' := by
  have := h.out
  subst this
  exact ⟨hb, .inr ⟨hx, rfl⟩⟩
theorem smallD_any (ds : List Dc) (sl : Value) (w : World) (hn : ds.length ≤ 1024) (hL : DL w ds sl) : Calls Tryz.prog 79 #[sl, .func (.func 80) #[] #[]] w (OutB (ds.all smallP) w) :=
  everyD_any smallP 80 #[] enters_smallDecl ds sl w (by omega) hL fun d a1 c1 a2 c2 w1 _ h1 h2 hl _ => by
    obtain ⟨n, ifc, fs, ms⟩ := d
    rw [show (#[] : Array Value) ++ #[dv ⟨n, ifc, fs, ms⟩ (.slice a1 fs.length c1) (.slice a2 ms.length c2)] = #[dv ⟨n, ifc, fs, ms⟩ (.slice a1 fs.length c1) (.slice a2 ms.length c2)] from by simp]
    exact smallDecl_any n ifc fs ms a1 a2 c1 c2 w1
theorem small_len {ds : List Dc} (h : ds.all smallP = true) {d : Dc} (hd : d ∈ ds) : d.fs.length ≤ 64 ∧ d.ms.length ≤ 64 := by
  have := List.all_eq_true.1 h d hd
  simp only [smallP, Bool.and_eq_true, decide_eq_true_eq] at this
  omega
theorem sound_any' (ds : List Dc) (sl : Value) (w : World) (hn : ds.length ≤ 1024) (hS : ds.all smallP = true) (hL : DL w ds sl) : Calls Tryz.prog 79 #[sl, .func (.func 81) #[] #[]] w (OutB (ds.all dsP) w) :=
  everyD_any dsP 81 #[] enters_soundDecl ds sl w (by omega) hL fun d a1 c1 a2 c2 w1 hd h1 h2 hl _ => by
    obtain ⟨k1, k2⟩ := small_len hS hd
    obtain ⟨n, ifc, fs, ms⟩ := d
    rw [show (#[] : Array Value) ++ #[dv ⟨n, ifc, fs, ms⟩ (.slice a1 fs.length c1) (.slice a2 ms.length c2)] = #[dv ⟨n, ifc, fs, ms⟩ (.slice a1 fs.length c1) (.slice a2 ms.length c2)] from by simp]
    exact soundDecl_any n ifc fs ms a1 a2 c1 c2 w1 hl h1 h2 (by show fs.length ≤ _; have : fs.length ≤ 64 := k1; omega) (by have : ms.length ≤ 64 := k2; omega)
theorem allfit_any (ds : List Dc) (b : Nat) (sl : Value) (w : World) (hD : DX w b ds) (hn : ds.length ≤ 1024) (hS : ds.all smallP = true) (hF : ds.all dsP = true) (hL : DL w ds sl) : Calls Tryz.prog 79 #[sl, .func (.func 83) #[.map (some b)] #[]] w (OutB (ds.all (fitP ds)) w) :=
  everyD_any (fitP ds) 83 #[.map (some b)] enters_fits ds sl w (by omega) hL fun d a1 c1 a2 c2 w1 hd h1 h2 hl hb => by
    obtain ⟨k1, k2⟩ := small_len hS hd
    have hf := List.all_eq_true.1 hF d hd
    obtain ⟨n, ifc, fs, ms⟩ := d
    simp only [dsP, Bool.and_eq_true] at hf
    rw [show (#[.map (some b)] : Array Value) ++ #[dv ⟨n, ifc, fs, ms⟩ (.slice a1 fs.length c1) (.slice a2 ms.length c2)] = #[.map (some b), dv ⟨n, ifc, fs, ms⟩ (.slice a1 fs.length c1) (.slice a2 ms.length c2)] from by simp]
    exact fits_any ds b n ifc fs ms a1 a2 c1 c2 w1 (hD.later hb) h1 h2 (by have : fs.length ≤ 64 := k1; omega) (by have : ms.length ≤ 64 := k2; omega) hf.2.2.1 hf.2.2.2
set_option maxRecDepth 20000 in
set_option maxHeartbeats 4000000 in
theorem declare_any (ds : List Dc) (sl : Value) (w : World) (hL : DL w ds sl) : Calls Tryz.prog 42 #[sl] w (DecO ds w) := by
  obtain ⟨ao, cap, rfl⟩ := hL.slice
  by_cases hl : 1024 < ds.length
  · have HE : Hid (errP ds = 4) := by rw [Hid, errP, if_pos hl]
    have f0 : decide ((ds.length : Int) > 1024) = true := by simp; omega
    clear hL
    go_enter Tryz.func42, Tryz.ntmps42
    go_wp2
    exact bodyPost_ret (by simp [results, Tryz.results42, go_sem]) rfl (DecO.bad HE (by decide) (Below.refl _ _))
  have f0 : decide ((ds.length : Int) > 1024) = false := by simp; omega
  have hn : ds.length ≤ 1024 := by omega
  have cS := smallD_any ds _ w hn hL
  have HL := Lib.hid hL
  clear hL
  cases hS : ds.all smallP with
  | false =>
    rw [hS] at cS
    have HE : Hid (errP ds = 4) := by rw [Hid, errP, if_neg hl, if_pos hS]
    clear hS
    go_enter Tryz.func42, Tryz.ntmps42
    go_wp2_with fail
    refine cS.mono ?_
    rintro e w1 ⟨rfl, hb1⟩
    clear cS
    go_wp2
    exact bodyPost_ret (by simp [results, Tryz.results42, go_sem]) rfl (DecO.bad HE (by decide) hb1)
  | true =>
    rw [hS] at cS
    have HCF : Hid (∀ W, Below w.heap.size w W → Calls Tryz.prog 79 #[.slice ao ds.length cap, .func (.func 81) #[] #[]] W (OutB (ds.all dsP) W)) := fun W hb => sound_any' ds _ W hn hS (HL.out.later hb)
    cases hF : ds.all dsP with
    | false =>
      rw [hF] at HCF
      have HE : Hid (errP ds = 2) := by rw [Hid, errP, if_neg hl, if_neg (by rw [hS]; simp), if_pos hF]
      clear hS hF
      go_enter Tryz.func42, Tryz.ntmps42
      go_wp2_with fail
      refine cS.mono ?_
      rintro e w1 ⟨rfl, hb1⟩
      have cF := HCF.out w1 hb1
      clear cS
      go_wp2_with fail
      refine cF.mono ?_
      rintro e w2 ⟨rfl, hb2⟩
      have HB2 := Lib.hid (hb1.trans (hb2.mono hb1.size))
      clear cF hb1 hb2
      go_wp2
      exact bodyPost_ret (by simp [results, Tryz.results42, go_sem]) rfl (DecO.bad HE (by decide) HB2.out)
    | true =>
      rw [hF] at HCF
      have HE0 : Hid (errP ds = if ¬ (ds.map Dc.name).Nodup then 5 else if ds.all (fitP ds) = false then 5 else 0) := by rw [Hid, errP, if_neg hl, if_neg (by rw [hS]; simp), if_neg (by rw [hF]; simp)]
      have HFT : Hid (∀ b W, Below w.heap.size w W → DX W b ds → Calls Tryz.prog 79 #[.slice ao ds.length cap, .func (.func 83) #[.map (some b)] #[]] W (OutB (ds.all (fitP ds)) W)) := fun b W hb hD => allfit_any ds b _ W hD hn hS hF (HL.out.later hb)
      clear hS hF
      go_enter Tryz.func42, Tryz.ntmps42
      go_wp2_with fail
      refine cS.mono ?_
      rintro e w1 ⟨rfl, hb1⟩
      have cF := HCF.out w1 hb1
      clear cS
      go_wp2_with fail
      refine cF.mono ?_
      rintro e w2 ⟨rfl, hb2⟩
      have HB2 := Lib.hid (hb1.trans (hb2.mono hb1.size))
      have cB := byName_any ds _ w2 (by omega) (HL.out.later HB2.out)
      clear cF hb1 hb2
      go_wp2_with fail
      refine cB.mono ?_
      rintro e w3 ⟨rfl, hb3, k3, D3, hM3⟩
      have HB3 := Lib.hid (HB2.out.trans (hb3.mono HB2.out.size))
      have hlen := hM3.own.len (P := Tryz.prog) (t := 56) Tryz.underlying56 3
      have hb2l : w2.heap.size < w3.heap.size := by
        obtain ⟨es, cl, hh, _⟩ := hM3.own
        exact lt_of_block hh
      have HM := Lib.hid hM3
      have HB23 := Lib.hid hb3
      have hsz := hM3.size
      clear cB hb3 hM3
      by_cases hN : (ds.map Dc.name).Nodup
      · have hs1 := hsz.2.1 hN
        rw [hs1] at hlen
        have HX := Lib.hid (DX.of hN HM.out HB23.out hb2l)
        have cT := HFT.out _ w3 HB3.out HX.out
        have f1 : decide ((ds.length : Int) < ds.length) = false := by simp
        cases hT : ds.all (fitP ds) with
        | false =>
          rw [hT] at cT
          have HE : Hid (errP ds = 5) := HE0.out.trans (by rw [if_neg (by simpa using hN), if_pos hT])
          clear hT hsz hN
          go_wp2_with (at_builtin; refine wpList_lenE rfl _ 56 rfl rfl hlen ?_)
          refine cT.mono ?_
          rintro e w4 ⟨rfl, hb4⟩
          have HB4 := Lib.hid (HB3.out.trans (hb4.mono HB3.out.size))
          clear cT hb4
          go_wp2
          exact bodyPost_ret (by simp [results, Tryz.results42, go_sem]) rfl (DecO.bad HE (by decide) HB4.out)
        | true =>
          rw [hT] at cT
          have HE : Hid (errP ds = 0) := HE0.out.trans (by rw [if_neg (by simpa using hN), if_neg (by rw [hT]; simp)])
          clear hT hsz hN
          go_wp2_with (at_builtin; refine wpList_lenE rfl _ 56 rfl rfl hlen ?_)
          refine cT.mono ?_
          rintro e w4 ⟨rfl, hb4⟩
          have HB4 := Lib.hid (HB3.out.trans (hb4.mono HB3.out.size))
          have HX4 := Lib.hid (HX.out.later hb4)
          clear cT hb4
          go_wp2
          exact bodyPost_ret (by simp [results, Tryz.results42, go_sem]) rfl (⟨HB4.out, .inl ⟨HE.out, _, rfl, HX4.out⟩⟩)
      · have hs1 := hsz.2.2 hN
        have HE : Hid (errP ds = 5) := HE0.out.trans (by rw [if_pos hN])
        have f1 : decide ((Maps.size D3 : Int) < ds.length) = true := by simp; omega
        clear hN hsz
        go_wp2_with (at_builtin; refine wpList_lenE rfl _ 56 rfl rfl hlen ?_)
        go_wp2
        exact bodyPost_ret (by simp [results, Tryz.results42, go_sem]) rfl (DecO.bad HE (by decide) HB3.out)
end Go.Proofs.YtbejkphekfbfnaaGreat
