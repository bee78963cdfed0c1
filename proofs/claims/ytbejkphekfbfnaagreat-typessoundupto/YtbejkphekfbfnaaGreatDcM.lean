/- The map of declarations: byName, and what it is asked. -/
import Derived.Test.YtbejkphekfbfnaaGreatDcR
import Derived.Maps.Own
import Derived.Maps.OwnSet
import Derived.Maps.Views
import Derived.StringKeys
namespace Go.Proofs.YtbejkphekfbfnaaGreat
open Go.RowKit Go.Maps
attribute [local go_sem ↓] Go.wp_at_zero Go.wp_at_succ

def heldD (v : Value) : Option (DataW Value × List MemPlace) := some (.held v, [])
theorem str_keyed : Keyed Tryz.prog 9 := string_keyed Tryz.underlying9
theorem key_str (s : List UInt8) (h : s.length ≤ maxLen) : keyOf Tryz.prog 9 (.string ⟨s.toArray⟩) = some (.string s) := by
  have := Go.WideMaps.keyOf_string_mk Tryz.underlying9 (s := ⟨s.toArray⟩) (by simpa [ByteArray.size] using h)
  simpa using this
/-- The map in block b holds just these declarations, in memory of w0. -/
structure DMc (w0 w : World) (b k : Nat) (D : DataW Value) (ds : List Dc) : Prop where
  own : w.ownsMap (H := Value) Tryz.prog 9 heldD b k D
  has : ∀ n : List UInt8, Maps.has D (.string n) = true ↔ ∃ d ∈ ds, d.name = n
  at_ : ∀ n : List UInt8, Maps.has D (.string n) = true → ∃ d s1 s2, d ∈ ds ∧ d.name = n ∧ (∀ z, D.atKey (.string n) z = .held (dv d s1 s2)) ∧ FL w0 d.fs s1 ∧ FL w0 d.ms s2
  size : Maps.size D ≤ ds.length ∧ ((ds.map Dc.name).Nodup → Maps.size D = ds.length) ∧ (¬ (ds.map Dc.name).Nodup → Maps.size D < ds.length)
theorem DMc.put {w0 w : World} {b k : Nat} {D : DataW Value} {ds : List Dc} (h : DMc w0 w b k D ds) (d : Dc) (s1 s2 : Value) (h1 : FL w0 d.fs s1) (h2 : FL w0 d.ms s2) {w' : World} (hw : w'.ownsMap (H := Value) Tryz.prog 9 heldD b (k + 1) (D.put (.string d.name) (.held (dv d s1 s2)))) : DMc w0 w' b (k + 1) (D.put (.string d.name) (.held (dv d s1 s2))) (ds ++ [d]) := by
  have hM := h.own.isMap
  have hK : WideAt.IsKeyLit (.string d.name) := by simp [WideAt.IsKeyLit]
  have hasE : ∀ n : List UInt8, Maps.has (D.put (.string d.name) (.held (dv d s1 s2))) (.string n) = true ↔ ∃ x ∈ ds ++ [d], x.name = n := fun n => by
    by_cases hn : n = d.name
    · subst hn
      rw [Maps.has_put_same hM hK]
      exact ⟨fun _ => ⟨d, by simp, rfl⟩, fun _ => rfl⟩
    · rw [Maps.has_put_other (fun e => hn (by simpa using e)), h.has n]
      refine ⟨fun ⟨x, hx, hxn⟩ => ⟨x, by simp [hx], hxn⟩, fun ⟨x, hx, hxn⟩ => ?_⟩
      rcases List.mem_append.1 hx with hx | hx
      · exact ⟨x, hx, hxn⟩
      · rw [List.mem_singleton] at hx
        subst hx
        exact absurd hxn.symm hn
  refine ⟨hw, hasE, fun n hn => ?_, ?_⟩
  · by_cases e : n = d.name
    · subst e
      exact ⟨d, s1, s2, by simp, rfl, fun z => Maps.atKey_put_same hM hK _ _, h1, h2⟩
    · rw [Maps.has_put_other (fun x => e (by simpa using x))] at hn
      obtain ⟨x, t1, t2, hx, hxn, ha, f1, f2⟩ := h.at_ n hn
      exact ⟨x, t1, t2, by simp [hx], hxn, fun z => (Maps.atKey_put_other (fun x => e (by simpa using x)) _ _).trans (ha z), f1, f2⟩
  · have hs := Maps.size_put (k := .string d.name) (h.own.tidy str_keyed) (.held (dv d s1 s2))
    obtain ⟨a, b', c⟩ := h.size
    rw [List.map_append, List.map_cons, List.map_nil, List.length_append, List.length_cons, List.length_nil]
    by_cases hd : Maps.has D (.string d.name) = true
    · rw [if_pos hd] at hs
      obtain ⟨x, hx, hxn⟩ := (h.has d.name).1 hd
      have hnn : ¬ (ds.map Dc.name ++ [d.name]).Nodup := fun hN => by
        rw [List.nodup_append] at hN
        exact hN.2.2 d.name (List.mem_map.2 ⟨x, hx, hxn⟩) d.name (by simp) rfl
      exact ⟨by omega, fun hN => absurd hN hnn, fun _ => by omega⟩
    · rw [if_neg hd] at hs
      have hno : ¬ ∃ x ∈ ds, x.name = d.name := fun hx => hd ((h.has d.name).2 hx)
      have hiff : (ds.map Dc.name ++ [d.name]).Nodup ↔ (ds.map Dc.name).Nodup := by
        rw [List.nodup_append]
        refine ⟨fun h => h.1, fun h => ⟨h, by simp, fun a ha b hb => ?_⟩⟩
        rw [List.mem_singleton] at hb
        subst hb
        intro hab
        subst hab
        obtain ⟨x, hx, hxn⟩ := List.mem_map.1 ha
        exact hno ⟨x, hx, hxn⟩
      rw [hiff]
      exact ⟨by omega, fun hN => by rw [hs, b' hN], fun hN => by rw [hs]; have := c hN; omega⟩
/-- The map of declarations in block b. -/
def DM (w : World) (b : Nat) (ds : List Dc) : Prop := ∃ k D, DMc w w b k D ds
set_option maxRecDepth 100000 in
set_option maxHeartbeats 2000000 in
theorem byName_any (ds : List Dc) (sl : Value) (w : World) (hn : ds.length ≤ 100000) (hL : DL w ds sl) :
    Calls Tryz.prog 82 #[sl] w fun e w' => e = .returned (.map (some w.heap.size)) ∧ Below w.heap.size w w' ∧ ∃ k D, DMc w w' w.heap.size k D ds := by
  obtain ⟨ao, cap, rfl⟩ := hL.slice
  have hmk : ∀ w, (Instr.makeMap 56 (some (.int .i64 ds.length))).run Tryz.prog w = .ok (.map (some w.heap.size)) (w.alloc (.map #[] 0)) := fun _ => rfl
  have HL := Lib.hid hL
  have HB0 : Hid (Below w.heap.size w (w.alloc (.map #[] 0))) := (Below.refl _ _).alloc (Nat.le_refl _) _
  have HM0 : Hid (DMc w (w.alloc (.map #[] 0)) w.heap.size 0 (.map []) []) := ⟨World.ownsMap_made w Tryz.prog 9 heldD, fun n => by simp [Maps.has], fun n h => by simp [Maps.has] at h, by simp [Maps.size]⟩
  clear hL
  go_enter Tryz.func82, Tryz.ntmps82
  go_wp2_with fail
  go_loopw [11] (fun v wr => ∃ j : Nat, j ≤ ds.length ∧ v = .int .i64 j ∧ Hid (Below w.heap.size w wr) ∧ w.heap.size < wr.heap.size ∧ Hid (∃ D, DMc w wr w.heap.size j D (ds.take j))) (fun v _ => ds.length - (intOf v).toNat)
  case atStart => exact ⟨0, Nat.zero_le _, rfl, HB0, by simp, ⟨_, HM0.out⟩⟩
  case round =>
    obtain ⟨j, hj, rfl, HB, hwl, HM⟩ := hrel
    clear HM0 HB0
    by_cases hlt : j < ds.length
    · obtain ⟨d, hd⟩ : ∃ d, ds[j]? = some d := ⟨_, List.getElem?_eq_getElem hlt⟩
      obtain ⟨ao', c', e, hat⟩ := HL.out
      cases e
      obtain ⟨g, o, s1, s2, hao, hgl, y0, y1, y2, y3, f1, f2, hml⟩ := hat j d hd
      subst hao
      obtain ⟨a1, c1, rfl⟩ := f1.slice
      obtain ⟨a2, c2, rfl⟩ := f2.slice
      have x0 := (HB.out.cell (p := ⟨g, o + j * 4, none⟩) hgl).trans y0
      have x1 := (HB.out.cell (p := ⟨g, o + j * 4 + 1, none⟩) hgl).trans y1
      have x2 := (HB.out.cell (p := ⟨g, o + j * 4 + 2, none⟩) hgl).trans y2
      have x3 := (HB.out.cell (p := ⟨g, o + j * 4 + 3, none⟩) hgl).trans y3
      have hgr : g < wr.heap.size := by omega
      obtain ⟨D, hD⟩ := HM.out
      have hown := hD.own.alloc (.cells #[.string ⟨d.name.toArray⟩, .bool d.ifc, .slice a1 d.fs.length c1, .slice a2 d.ms.length c2] 60)
      obtain ⟨w1, hup, hw1, hg1⟩ := hown.update str_keyed Tryz.underlying56 (by unfold maxLen; omega) (val := dv d (.slice a1 d.fs.length c1) (.slice a2 d.ms.length c2)) (d := .held (dv d (.slice a1 d.fs.length c1) (.slice a2 d.ms.length c2))) (ps := []) (key_str d.name hml) rfl
      have HM1 := Lib.hid (hD.put d _ _ f1 f2 hw1)
      have HG := Lib.hid hg1
      have HX : Hid (ds.take (j + 1) = ds.take j ++ [d]) := by rw [Hid, List.take_add_one, hd]; rfl
      clear hat hd hD hown hw1 f1 f2 y0 y1 y2 y3 hg1 HM
      go_wp2
      have hB1 : Below w.heap.size w w1 := by
        have hb := HB.out.alloc HB.out.size (.cells #[.string ⟨d.name.toArray⟩, .bool d.ifc, .slice a1 d.fs.length c1, .slice a2 d.ms.length c2] 60)
        exact ⟨HG.out.os.trans hb.os, HG.out.tape.trans hb.tape, HG.out.output.trans hb.output, Nat.le_trans hb.size HG.out.size, fun q hq => (HG.out.block q (by simp; omega) (by simp; omega)).trans (hb.block q hq)⟩
      have hz1 := HG.out.size
      go_roundw
      case rel => exact ⟨j + 1, by omega, by go_num, hB1, by simp at hz1; omega, ⟨_, by rw [HX.out]; exact HM1.out⟩⟩
      case measure => simp [intOf]; omega
    · have et : ds.take j = ds := List.take_of_length_le (by omega)
      rw [et] at HM
      obtain ⟨D, hD⟩ := HM.out
      have HD := Lib.hid hD
      clear hD HM
      go_wp2
      go_ret
      exact ⟨rfl, HB.out, _, _, HD.out⟩
end Go.Proofs.YtbejkphekfbfnaaGreat
