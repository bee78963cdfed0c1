/- The names of members: nameOf, each. -/
import Derived.Test.YtbejkphekfbfnaaGreatDcP
namespace Go.Proofs.YtbejkphekfbfnaaGreat
open Go.RowKit Go.Maps
attribute [local go_sem ↓] Go.wp_at_zero Go.wp_at_succ

theorem nameOf_any (f : Fl) (a3 : Option Addr) (n3 c3 : Nat) (w : World) : Calls Tryz.prog 134 #[fv f (.slice a3 n3 c3)] w fun e w' => e = .returned (.string ⟨f.1.toArray⟩) ∧ Below w.heap.size w w' := by
  have hX0 := Hb.start (w := w) (cs := #[.string ⟨f.1.toArray⟩, .int .i64 f.2.kind, .string ⟨f.2.text.toArray⟩, .int .i64 f.2.num, .slice a3 n3 c3]) (T := 65)
  go_enter Tryz.func134, Tryz.ntmps134
  go_wp2
  go_ret
  exact ⟨rfl, hX0.out⟩
abbrev strV (n : List UInt8) : Value := .string ⟨n.toArray⟩
/-- A list of texts of one's own. -/
def SB (w : World) (v : Value) (ns : List (List UInt8)) : Prop := (ns = [] ∧ v = .slice none 0 0) ∨ (ns ≠ [] ∧ ∃ m, v = .slice (some ⟨m, 0, none⟩) ns.length ns.length ∧ w.heap[m]? = some (.cells (ns.map strV).toArray 9 (0, 0)))
theorem SB.later {w W : World} {v : Value} {ns : List (List UInt8)} (h : SB w v ns) (hb : Below w.heap.size w W) : SB W v ns := by
  rcases h with h | ⟨h0, m, h1, h2⟩
  · exact .inl h
  · exact .inr ⟨h0, m, h1, (hb.block m (lt_of_block h2)).trans h2⟩
theorem set_at (A : List Value) (k : Nat) (u e : Value) : ((A ++ List.replicate (k + 1) e).toArray.setIfInBounds A.length u) = ((A ++ [u]) ++ List.replicate k e).toArray := by
  rw [List.setIfInBounds_toArray]
  congr 1
  rw [List.set_append_right _ _ (Nat.le_refl _), Nat.sub_self, List.replicate_succ, List.set_cons_zero]
  simp
set_option maxRecDepth 20000 in
theorem enters_nameOf : Enters Tryz.prog 134 := enters_of Tryz.func134 (by kernel_rfl) rfl
theorem info_str : (Tryz.prog.info? 9).map (fun i => (i.zero, i.size, i.bytes)) = some (some (.string .empty), 1, 16) := by kernel_rfl
theorem made_str (n : Nat) : madeCells #[Value.string .empty] n = (List.replicate n (strV [])).toArray := by
  apply Array.ext
  · simp [madeCells]
  · intro i h1 h2
    simp [madeCells, Nat.mod_one]
    rfl
theorem run_strs (w : World) (n : Nat) (hn : n ≤ 100000) : (Instr.makeSlice 111 (.int .i64 n) (.int .i64 n)).run Tryz.prog w = .ok (.slice (some ⟨w.heap.size, 0, none⟩) n n) (w.alloc (.cells (List.replicate n (strV [])).toArray 9)) := by
  obtain ⟨i0, hi, hz0, hz1, hz2⟩ := info_parts info_str
  have hmk := run_make (P := Tryz.prog) w 111 9 i0 (.string .empty) Tryz.underlying111 hi hz0 .i64 .i64 n n (by omega) (Int.le_refl _) (by rw [hz2]; omega) (by omega)
  rw [hz1] at hmk
  simp only [Int.toNat_natCast, Nat.mul_one] at hmk
  rw [show (Value.string .empty).cells = #[Value.string .empty] from rfl] at hmk
  rw [made_str] at hmk
  exact hmk
set_option maxRecDepth 20000 in
set_option maxHeartbeats 2000000 in
theorem eachFS_any (fs : List Fl) (sl : Value) (w : World) (hn : fs.length ≤ 100000) (hL : FL w fs sl) :
    Calls Tryz.prog 133 #[sl, .func (.func 134) #[] #[]] w fun e w' => ∃ v, e = .returned v ∧ Below w.heap.size w w' ∧ SB w' v (fs.map Prod.fst) := by
  obtain ⟨ao, cap, rfl⟩ := hL.slice
  have eg : ∀ args w, (callFunc 134 args).run Tryz.prog w = .ok (.enter 134 args) w := enters_nameOf
  by_cases h0 : fs.length = 0
  · have f0 : ((fs.length : Int) == 0) = true := by rw [beq_iff_eq]; omega
    have hnil : fs = [] := List.eq_nil_of_length_eq_zero h0
    go_enter Tryz.func133, Tryz.ntmps133
    go_wp2
    go_ret
    exact ⟨_, rfl, Below.refl _ _, .inl ⟨by rw [hnil]; rfl, rfl⟩⟩
  have f0 : ((fs.length : Int) == 0) = false := by rw [beq_eq_false_iff_ne]; omega
  have hmk := run_strs w fs.length hn
  have HL := Lib.hid hL
  have HB0 : Hid (Below w.heap.size w (w.alloc (.cells (List.replicate fs.length (strV [])).toArray 9))) := (Below.refl _ _).alloc (Nat.le_refl _) _
  have HX0 : Hid ((w.alloc (.cells (List.replicate fs.length (strV [])).toArray 9)).heap[w.heap.size]? = some (.cells (List.replicate fs.length (strV [])).toArray 9 (0, 0))) := heap_alloc_new w _
  clear hL
  generalize hR : (List.replicate fs.length (strV [])).toArray = R0 at *
  have HR := Lib.hid hR
  clear hR
  go_enter Tryz.func133, Tryz.ntmps133
  go_wp2_with fail
  go_loopw [16] (fun v wr => ∃ j : Nat, j ≤ fs.length ∧ v = .int .i64 j ∧ Hid (Below w.heap.size w wr) ∧ Hid (wr.heap[w.heap.size]? = some (.cells (((fs.take j).map fun f => strV f.1) ++ List.replicate (fs.length - j) (strV [])).toArray 9 (0, 0)))) (fun v _ => fs.length - (intOf v).toNat)
  case atStart => exact ⟨0, Nat.zero_le _, rfl, HB0, by rw [Hid]; simpa [HR.out] using HX0.out⟩
  case round =>
    obtain ⟨j, hj, rfl, HB, HX⟩ := hrel
    clear HB0 HX0 hmk
    have hwl := lt_of_block HX.out
    by_cases hlt : j < fs.length
    · obtain ⟨f, hf⟩ : ∃ f, fs[j]? = some f := ⟨_, List.getElem?_eq_getElem hlt⟩
      obtain ⟨ao', c', e, hat⟩ := HL.out.later HB.out
      cases e
      obtain ⟨g, o, s', hao, hgl, x0, x1, x2, x3, x4, hT, hml⟩ := hat j f hf
      subst hao
      obtain ⟨a3, n3, c3, rfl⟩ := hT.kt.slice
      have cN := nameOf_any f a3 n3 c3 (wr.alloc (.cells #[.string ⟨f.1.toArray⟩, .int .i64 f.2.kind, .string ⟨f.2.text.toArray⟩, .int .i64 f.2.num, .slice a3 n3 c3] 65))
      have HB1 : Hid (Below wr.heap.size wr (wr.alloc (.cells #[.string ⟨f.1.toArray⟩, .int .i64 f.2.kind, .string ⟨f.2.text.toArray⟩, .int .i64 f.2.num, .slice a3 n3 c3] 65))) := (Below.refl _ _).alloc (Nat.le_refl _) _
      have HE : Hid (fs.take (j + 1) = fs.take j ++ [f]) := by rw [Hid, List.take_add_one, hf]; rfl
      have HLn : Hid (((fs.take j).map fun f => strV f.1).length = j) := by rw [Hid, List.length_map, List.length_take]; omega
      have HRp : Hid (fs.length - j = (fs.length - (j + 1)) + 1) := by rw [Hid]; omega
      clear hat hf hT
      go_wp2_with fail
      refine cN.mono ?_
      rintro e w2 ⟨rfl, hb2⟩
      have hb3 : Below wr.heap.size wr w2 := HB1.out.trans (hb2.mono (by simp))
      have hx2 : w2.heap[w.heap.size]? = some (.cells (((fs.take j).map fun f => strV f.1) ++ List.replicate (fs.length - j) (strV [])).toArray 9 (0, 0)) := (hb3.block _ hwl).trans HX.out
      have HB3 : Hid (Below w.heap.size w w2) := HB.out.trans (hb3.mono HB.out.size)
      have hcell : ∃ u, w2.cell? ⟨w.heap.size, j, none⟩ = some u := by
        refine ⟨strV [], ?_⟩
        rw [Lib.cell_of_heap hx2, HRp.out]
        rw [List.getElem?_toArray, List.getElem?_append_right (by rw [HLn.out]; exact Nat.le_refl _), HLn.out, Nat.sub_self, List.replicate_succ]
        rfl
      obtain ⟨u, hu⟩ := hcell
      have hfz : w2.frozen? ⟨w.heap.size, j, none⟩ = false := by simp [World.frozen?, hx2]
      have hlt2 := lt_of_block hx2
      have HS : Hid ((w2.setCell ⟨w.heap.size, j, none⟩ (strV f.1)).heap[w.heap.size]? = some (.cells (((fs.take (j + 1)).map fun f => strV f.1) ++ List.replicate (fs.length - (j + 1)) (strV [])).toArray 9 (0, 0))) := by
        have h1 := heap_setCell_same w2 w.heap.size j (strV f.1) hx2
        have h2 := set_at ((fs.take j).map fun f => strV f.1) (fs.length - (j + 1)) (strV f.1) (strV [])
        rw [HLn.out, ← HRp.out] at h2
        rw [Hid, h1, h2, HE.out]
        simp
      have HB4 : Hid (Below w.heap.size w (w2.setCell ⟨w.heap.size, j, none⟩ (strV f.1))) := HB3.out.setCell (p := ⟨w.heap.size, j, none⟩) (Nat.le_refl _) _
      clear cN hb2 hb3 hx2 x0 x1 x2 x3 x4
      go_wp2
      go_roundw
      case rel => exact ⟨j + 1, by omega, by go_num, HB4, HS⟩
      case measure => simp [intOf]; omega
    · have et : j = fs.length := by omega
      subst et
      go_wp2
      go_ret
      refine ⟨_, rfl, HB.out, .inr ⟨fun h => h0 (by simpa using congrArg List.length h), w.heap.size, by simp, ?_⟩⟩
      have := HX.out
      simpa [strV, Function.comp_def] using this
end Go.Proofs.YtbejkphekfbfnaaGreat
