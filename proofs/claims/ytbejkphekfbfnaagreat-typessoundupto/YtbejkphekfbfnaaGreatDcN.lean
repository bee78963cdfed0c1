/- What the map of declarations is asked: known, named, isStruct, isInterface. -/
import Derived.Test.YtbejkphekfbfnaaGreatDcM
namespace Go.Proofs.YtbejkphekfbfnaaGreat
open Go.RowKit Go.Maps
attribute [local go_sem ↓] Go.wp_at_zero Go.wp_at_succ

/-- The map of declarations in block b, all in this world. -/
structure DX (w : World) (b : Nat) (ds : List Dc) : Prop where
  nd : (ds.map Dc.name).Nodup
  lt : b < w.heap.size
  ex : ∃ k D, DMc w w b k D ds
theorem DX.later {w W : World} {b : Nat} {ds : List Dc} (h : DX w b ds) (hb : Below w.heap.size w W) : DX W b ds := by
  obtain ⟨k, D, hD⟩ := h.ex
  refine ⟨h.nd, Nat.lt_of_lt_of_le h.lt hb.size, k, D, ?_, hD.has, fun n hn => ?_, hD.size⟩
  · obtain ⟨es, clock, e, r⟩ := hD.own
    exact ⟨es, clock, (hb.block b h.lt).trans e, r⟩
  · obtain ⟨d, s1, s2, h1, h2, h3, h4, h5⟩ := hD.at_ n hn
    exact ⟨d, s1, s2, h1, h2, h3, h4.later hb, h5.later hb⟩
theorem DX.of {w0 w : World} {b k : Nat} {D : DataW Value} {ds : List Dc} (hn : (ds.map Dc.name).Nodup) (h : DMc w0 w b k D ds) (hb : Below w0.heap.size w0 w) (hl : b < w.heap.size) : DX w b ds :=
  ⟨hn, hl, k, D, h.own, h.has, fun n hn => by
    obtain ⟨d, s1, s2, h1, h2, h3, h4, h5⟩ := h.at_ n hn
    exact ⟨d, s1, s2, h1, h2, h3, h4.later hb, h5.later hb⟩, h.size⟩
theorem deP_mem {ds : List Dc} {n : List UInt8} : (∃ d ∈ ds, d.name = n) ↔ (deP ds n).isSome = true := by
  unfold deP
  rw [List.find?_isSome]
  simp
theorem deP_uniq : ∀ {ds : List Dc} {d : Dc}, (ds.map Dc.name).Nodup → d ∈ ds → deP ds d.name = some d
  | x :: ds, d, hn, hd => by
    simp only [List.map_cons, List.nodup_cons] at hn
    unfold deP
    rw [List.find?_cons]
    rcases List.mem_cons.1 hd with rfl | hd
    · simp
    · have hne : (x.name == d.name) = false := by
        rw [beq_eq_false_iff_ne]
        intro e
        exact hn.1 (List.mem_map.2 ⟨d, hd, e.symm⟩)
      rw [hne]
      exact deP_uniq hn.2 hd
theorem DX.look {w : World} {b : Nat} {ds : List Dc} (h : DX w b ds) {n : List UInt8} (hn : n.length ≤ maxLen) {d : Dc} (hd : deP ds n = some d) :
    ∃ a1 c1 a2 c2, (Instr.lookup 56 (.map (some b)) (.string ⟨n.toArray⟩) true).run Tryz.prog w = .ok (.tuple #[dv d (.slice a1 d.fs.length c1) (.slice a2 d.ms.length c2), .bool true]) w ∧ FL w d.fs (.slice a1 d.fs.length c1) ∧ FL w d.ms (.slice a2 d.ms.length c2) := by
  obtain ⟨k, D, hD⟩ := h.ex
  have hh : Maps.has D (.string n) = true := (hD.has n).2 (deP_mem.2 (by rw [hd]; rfl))
  obtain ⟨x, s1, s2, hx, hxn, ha, f1, f2⟩ := hD.at_ n hh
  have hxd : x = d := by
    have := deP_uniq h.nd hx
    rw [hxn, hd] at this
    cases this; rfl
  subst hxd
  obtain ⟨a1, c1, rfl⟩ := f1.slice
  obtain ⟨a2, c2, rfl⟩ := f2.slice
  obtain ⟨v, ps, hrun, hv⟩ := hD.own.look_ok str_keyed Tryz.underlying56 (Tryz.zeroValue60 w) (zd := .held (.agg #[.string ⟨#[]⟩, .bool false, .slice none 0 0, .slice none 0 0])) (zp := []) rfl (key_str n hn)
  rw [ha] at hv
  simp [heldD] at hv
  rw [hh, hv.1] at hrun
  exact ⟨a1, c1, a2, c2, hrun, f1, f2⟩
theorem DX.look0 {w : World} {b : Nat} {ds : List Dc} (h : DX w b ds) {n : List UInt8} (hn : n.length ≤ maxLen) (hd : deP ds n = none) :
    (Instr.lookup 56 (.map (some b)) (.string ⟨n.toArray⟩) true).run Tryz.prog w = .ok (.tuple #[.agg #[.string ⟨#[]⟩, .bool false, .slice none 0 0, .slice none 0 0], .bool false]) w := by
  obtain ⟨k, D, hD⟩ := h.ex
  have hh : Maps.has D (.string n) = false := by
    cases hc : Maps.has D (.string n) with
    | false => rfl
    | true =>
      have := deP_mem.1 ((hD.has n).1 hc)
      rw [hd] at this; cases this
  obtain ⟨v, ps, hrun, hv⟩ := hD.own.look_ok str_keyed Tryz.underlying56 (Tryz.zeroValue60 w) (zd := .held (.agg #[.string ⟨#[]⟩, .bool false, .slice none 0 0, .slice none 0 0])) (zp := []) rfl (key_str n hn)
  rw [Maps.atKey_of_not_has hh] at hv
  simp [heldD] at hv
  rw [hh, hv.1] at hrun
  exact hrun

theorem DX.lookW {w W : World} {b : Nat} {ds : List Dc} (h : DX w b ds) (hb : Below w.heap.size w W) {n : List UInt8} (hn : n.length ≤ maxLen) {d : Dc} (hd : deP ds n = some d) :
    ∃ a1 c1 a2 c2, (Instr.lookup 56 (.map (some b)) (.string ⟨n.toArray⟩) true).run Tryz.prog W = .ok (.tuple #[dv d (.slice a1 d.fs.length c1) (.slice a2 d.ms.length c2), .bool true]) W ∧ FL w d.fs (.slice a1 d.fs.length c1) ∧ FL w d.ms (.slice a2 d.ms.length c2) := by
  obtain ⟨k, D, hD⟩ := h.ex
  have hh : Maps.has D (.string n) = true := (hD.has n).2 (deP_mem.2 (by rw [hd]; rfl))
  obtain ⟨x, s1, s2, hx, hxn, ha, f1, f2⟩ := hD.at_ n hh
  have hxd : x = d := by
    have := deP_uniq h.nd hx
    rw [hxn, hd] at this
    cases this; rfl
  subst hxd
  obtain ⟨a1, c1, rfl⟩ := f1.slice
  obtain ⟨a2, c2, rfl⟩ := f2.slice
  have hown : W.ownsMap (H := Value) Tryz.prog 9 heldD b k D := by
    obtain ⟨es, clock, e, r⟩ := hD.own
    exact ⟨es, clock, (hb.block b h.lt).trans e, r⟩
  obtain ⟨v, ps, hrun, hv⟩ := hown.look_ok str_keyed Tryz.underlying56 (Tryz.zeroValue60 W) (zd := .held (.agg #[.string ⟨#[]⟩, .bool false, .slice none 0 0, .slice none 0 0])) (zp := []) rfl (key_str n hn)
  rw [ha] at hv
  simp [heldD] at hv
  rw [hh, hv.1] at hrun
  exact ⟨a1, c1, a2, c2, hrun, f1, f2⟩
mutual
/-- The program's known. -/
def kwP (ds : List Dc) : Tr → Bool
  | .mk k s _ ks => if k == 4 then (deP ds s).isSome else !(k == 8) && kwL ds ks
def kwL (ds : List Dc) : List Tr → Bool
  | [] => true
  | t :: ts => kwP ds t && kwL ds ts
end
theorem kwL_all (ds : List Dc) : ∀ ks : List Tr, kwL ds ks = ks.all (kwP ds)
  | [] => rfl
  | t :: ts => by simp only [kwL, List.all_cons, kwL_all ds ts]
set_option maxRecDepth 20000 in
set_option maxHeartbeats 2000000 in
theorem known_any (ds : List Dc) (b : Nat) : ∀ (n : Nat) (k : Int) (s : List UInt8) (m : Int) (ks : List Tr) (ao : Option Addr) (c : Nat) (w : World), cntN (.mk k s m ks) ≤ n → n ≤ 1000000 → (∀ n, TxN n (.mk k s m ks)) → DX w b ds → KT w (· < w.heap.size) (.mk k s m ks) (.slice ao ks.length c) →
    Calls Tryz.prog 50 #[.map (some b), .agg #[.int .i64 k, .string ⟨s.toArray⟩, .int .i64 m, .slice ao ks.length c]] w (OutB (kwP ds (.mk k s m ks)) w) := by
  intro n
  induction n with
  | zero => intro k s m ks ao c w h; simp only [cntN] at h; omega
  | succ n ih =>
    intro k s m ks ao c w hc hc2 hT hD hk
    simp only [cntN] at hc
    have HR : Hid (kwP ds (.mk k s m ks) = if k == 4 then (deP ds s).isSome else !(k == 8) && kwL ds ks) := by simp [Hid, kwP]
    have hX0 := Hxt.start (w := w) (c0 := .int .i64 k) (c1 := .string ⟨s.toArray⟩) (c2 := .int .i64 m) (c3 := .slice ao ks.length c)
    have hD0 := hD.later hX0.out
    have hsl : s.length ≤ maxLen := (hT 1).1
    by_cases k4 : k = 4
    · subst k4
      have HR1 : Hid (kwP ds (.mk 4 s m ks) = (deP ds s).isSome) := HR.out.trans (by simp)
      cases hd : deP ds s with
      | none =>
        have HX : Hid (kwP ds (.mk 4 s m ks) = false) := HR1.out.trans (by rw [hd]; rfl)
        have hl := hD0.look0 hsl hd
        clear hd hD0 hD ih hk hT
        go_enter Tryz.func50, Tryz.ntmps50
        go_wp2
        go_ret
        exact OutB.of HX ⟨rfl, hX0.out.alloc hX0.out.size _⟩
      | some d =>
        have HX : Hid (kwP ds (.mk 4 s m ks) = true) := HR1.out.trans (by rw [hd]; rfl)
        obtain ⟨a1, c1, a2, c2, hl, _, _⟩ := hD0.look hsl hd
        clear hd hD0 hD ih hk hT
        go_enter Tryz.func50, Tryz.ntmps50
        go_wp2
        go_ret
        exact OutB.of HX ⟨rfl, hX0.out.alloc hX0.out.size _⟩
    · have f4 : (k == 4) = false := by simpa using k4
      have HR1 : Hid (kwP ds (.mk k s m ks) = (!(k == 8) && ks.all (kwP ds))) := HR.out.trans (by rw [f4, kwL_all]; rfl)
      by_cases k8 : k = 8
      · subst k8
        have HX : Hid (kwP ds (.mk 8 s m ks) = false) := HR1.out.trans (by simp)
        clear hD0 hD ih hk hT
        go_enter Tryz.func50, Tryz.ntmps50
        go_wp2
        go_ret
        exact OutB.of HX ⟨rfl, hX0.out⟩
      · have e8 : (k == 8) = false := by simpa using k8
        have f8 : (k != 8) = true := by simpa using k8
        have HX : Hid (kwP ds (.mk k s m ks) = ks.all (kwP ds)) := HR1.out.trans (by rw [e8]; rfl)
        have hlen := cntNL_len ks
        have hk1 : KT (w.alloc (.cells #[.int .i64 k, .string ⟨s.toArray⟩, .int .i64 m, .slice ao ks.length c] 27)) (· < (w.alloc (.cells #[.int .i64 k, .string ⟨s.toArray⟩, .int .i64 m, .slice ao ks.length c] 27)).heap.size) (.mk k s m ks) (.slice ao ks.length c) := hk.fr (fun b hb => hX0.out.block b hb) (fun _ h => Nat.lt_of_lt_of_le h hX0.out.size)
        have cE : Calls Tryz.prog 87 #[.slice ao ks.length c, .func (.func 50) #[.map (some b)] #[]] (w.alloc (.cells #[.int .i64 k, .string ⟨s.toArray⟩, .int .i64 m, .slice ao ks.length c] 27)) (OutB (ks.all (kwP ds)) (w.alloc (.cells #[.int .i64 k, .string ⟨s.toArray⟩, .int .i64 m, .slice ao ks.length c] 27))) := by
          obtain ⟨sls, hr, hkl⟩ := Lst.of hk1
          rcases hr with ⟨h0, a', c', e⟩ | ⟨g, o, c', e, _, hg, hcl⟩
          · have : ks = [] := List.eq_nil_of_length_eq_zero h0
            subst this
            exact (everyT_nil _ ao c _).mono fun e w' ⟨h1, h2⟩ => ⟨h1, h2 ▸ Below.refl _ _⟩
          · cases e
            refine everyT_any (kwP ds) 50 #[.map (some b)] enters_known ks sls hkl.length _ g o c (by omega) hcl hkl.slices fun i t sl w1 ht hs hb1 => ?_
            have hkt := hkl.get ht hs
            have hm := List.mem_of_getElem? ht
            have hcm := cntNL_mem hm
            have htx : ∀ n, TxN n t := fun n => (hT (n + 1)).2 t hm
            obtain ⟨tk, ts, tm, tks⟩ := t
            obtain ⟨_, _, e⟩ := (Lst.of hkt).slice
            subst e
            exact ih tk ts tm tks _ _ w1 (by omega) (by omega) htx (hD0.later hb1) (hkt.fr (fun b hb => hb1.block b hb) (fun _ h => Nat.lt_of_lt_of_le h hb1.size))
        generalize ks.all (kwP ds) = bb at *
        clear hD0 hD ih hk hk1 hT
        go_enter Tryz.func50, Tryz.ntmps50
        go_wp2_with fail
        refine cE.mono ?_
        rintro e w1 ⟨rfl, hb1⟩
        have hX1 := hX0.next hb1
        clear cE hb1 hX0
        go_wp2
        go_ret
        exact OutB.of HX ⟨by simp, hX1.out⟩
end Go.Proofs.YtbejkphekfbfnaaGreat
