/- A table that is an argument: where its declarations lie. -/
import Derived.Test.YtbejkphekfbfnaaGreatTArg
import Derived.Test.YtbejkphekfbfnaaGreatDcA
namespace Go.Proofs.YtbejkphekfbfnaaGreat
open Go.ChangeShapes Go.WideShapes Go.ChangeAt Go.RowKit

instance : Inhabited Dc := ⟨⟨[], false, [], []⟩⟩
theorem five_of {α : Type} {cs : List α} (h : cs.length = 5) : ∃ c0 c1 c2 c3 c4, cs = [c0, c1, c2, c3, c4] := by
  match cs, h with
  | [c0, c1, c2, c3, c4], _ => exact ⟨c0, c1, c2, c3, c4, rfl⟩
set_option maxRecDepth 20000 in
theorem size25 : Tryz.prog.cellsOf 65 = 5 ∧ Tryz.prog.cellsOf 60 = 4 ∧ Tryz.prog.cellsOf 4 = 1 ∧ Tryz.prog.cellsOf 40 = 1 := ⟨by kernel_rfl, by kernel_rfl, by kernel_rfl, by kernel_rfl⟩
/-- What a member reads as. -/
theorem field_of {H : Type} {enc : TypeId × Value → H} {w : World} {fuel : Nat} {cs : List Value} {d : DataW H} {p : List MemPlace} (hB : Rows.uptoBulk d ≤ 1048576) (h : DataW.trod enc Tryz.prog w 0 (fun _ => true) true fuel 65 cs = some (d, p)) :
    ∃ (f : Fl) (sl : Value), cs = [.string ⟨f.1.toArray⟩, .int .i64 f.2.kind, .string ⟨f.2.text.toArray⟩, .int .i64 f.2.num, sl] ∧ Ty w f.2 sl ∧ f.1.length ≤ maxLen := by
  obtain ⟨y0, y1, n, hx, hl, h0, h1⟩ := Go.ChangeShapes.trod_struct2 Tryz.underlying65 h
  injection hx with hx _
  subst hx
  obtain ⟨c0, c1, c2, c3, c4, rfl⟩ := five_of (hl.trans size25.1)
  simp only [size24.1, size24.2.2.1, List.drop_zero, List.drop_succ_cons, List.take_succ_cons, List.take_zero] at h0 h1
  obtain ⟨s, e1, ex1, hs⟩ := DataW.trod_string Tryz.underlying9 h0
  injection e1 with e1 _
  subst e1
  have hb1 : Rows.uptoBulk y1.1 ≤ 1048576 := by
    simp only [Rows.uptoBulk, Rows.uptoBulkAll] at hB
    omega
  obtain ⟨t, sl, hcs, hkt, hcn, htx⟩ := tree_of (Rows.uptoBulk y1.1) (p := y1.2) (Nat.le_refl _) h1
  injection hcs with e0 hcs
  injection hcs with e1 hcs
  injection hcs with e2 hcs
  injection hcs with e3 _
  subst e0 e1 e2 e3
  refine ⟨(s.data.toList, t), c4, by simp, ⟨hkt, htx, by show cntN t ≤ _; omega⟩, by show s.data.toList.length ≤ _; rw [Array.length_toList]; exact hs⟩
/-- What is read as a list of members lies as one. -/
theorem fields_of {H : Type} {enc : TypeId × Value → H} {w : World} {fuel : Nat} {v : Value} {d : DataW H} {p : List MemPlace} (hB : Rows.uptoBulk d ≤ 1048576) (h : DataW.trod enc Tryz.prog w 0 (fun _ => true) true fuel 40 [v] = some (d, p)) : ∃ fs, FL w fs v := by
  rcases Go.Deep.open_slice Tryz.underlying40 h with ⟨e3, ex3⟩ | ⟨a, len, cap, mm, nn, D, Pl, e3, _, hlc, _, hmm, ex3, hel⟩
  · injection e3 with e3 _
    subst e3
    exact ⟨[], none, 0, rfl, fun j f hj => by simp at hj⟩
  · injection e3 with e3 _
    subst e3
    injection ex3 with ex3 _
    subst ex3
    simp only [if_true] at hmm
    subst hmm
    simp only [Rows.uptoBulk] at hB
    rw [size25.1] at hel
    have hi : ∀ i, i < len → ∃ q : Fl × Value, w.cells? 0 (a.add (i * 5)) 5 = some [.string ⟨q.1.1.toArray⟩, .int .i64 q.1.2.kind, .string ⟨q.1.2.text.toArray⟩, .int .i64 q.1.2.num, q.2] ∧ Ty w q.1.2 q.2 ∧ q.1.1.length ≤ maxLen := fun i hi => by
      obtain ⟨cs', hc, ht⟩ := hel i (by omega)
      have hm : Rows.uptoBulk (D i) ≤ Rows.uptoBulkAll ((List.range len).map D) := bulk_mem (List.mem_map.2 ⟨i, List.mem_range.2 hi, rfl⟩)
      obtain ⟨f, sl, rfl, h1, h2⟩ := field_of (by omega) ht
      exact ⟨(f, sl), hc, h1, h2⟩
    obtain ⟨f, hf⟩ := Go.Deep.choose_lt (α := Fl × Value) hi
    have hl : ((List.range len).map fun i => (f i).1).length = len := by simp
    refine ⟨(List.range len).map fun i => (f i).1, some a, mm, by rw [hl], fun i q hq => ?_⟩
    have hil : i < len := by
      rcases Nat.lt_or_ge i len with h1 | h1
      · exact h1
      · rw [List.getElem?_eq_none (by rw [hl]; exact h1)] at hq; cases hq
    rw [List.getElem?_map, List.getElem?_range hil] at hq
    simp at hq
    subst hq
    have hcell : ∀ i, i < len → ∀ r, r < 5 → w.cell? (a.add (i * 5 + r)) = [Value.string ⟨(f i).1.1.toArray⟩, .int .i64 (f i).1.2.kind, .string ⟨(f i).1.2.text.toArray⟩, .int .i64 (f i).1.2.num, (f i).2][r]? := fun i hi r hr => by
      have := (World.cells?_some (hf i hi).1).2.2 r hr
      rwa [Go.Deep.add_add] at this
    obtain ⟨b, off, spot⟩ := a
    have hspot : spot = none := by
      have := hcell 0 (by omega) 0 (by omega)
      simpa [Addr.add] using World.cell?_spot this
    subst hspot
    have hc' : ∀ r, r < 5 → w.cell? ⟨b, off + i * 5 + r, none⟩ = [Value.string ⟨(f i).1.1.toArray⟩, .int .i64 (f i).1.2.kind, .string ⟨(f i).1.2.text.toArray⟩, .int .i64 (f i).1.2.num, (f i).2][r]? := fun r hr => by
      have := hcell i hil r hr
      rwa [Go.WideShapes.add_plain, show off + (i * 5 + r) = off + i * 5 + r by omega] at this
    exact ⟨b, off, (f i).2, rfl, lt_of_cell (hc' 0 (by omega)), hc' 0 (by omega), hc' 1 (by omega), hc' 2 (by omega), hc' 3 (by omega), hc' 4 (by omega), (hf i hil).2.1, (hf i hil).2.2⟩
/-- What a declaration reads as. -/
theorem decl_of {H : Type} {enc : TypeId × Value → H} {w : World} {fuel : Nat} {cs : List Value} {d : DataW H} {p : List MemPlace} (hB : Rows.uptoBulk d ≤ 1048576) (h : DataW.trod enc Tryz.prog w 0 (fun _ => true) true fuel 60 cs = some (d, p)) :
    ∃ (x : Dc) (s1 s2 : Value), cs = [.string ⟨x.name.toArray⟩, .bool x.ifc, s1, s2] ∧ FL w x.fs s1 ∧ FL w x.ms s2 ∧ x.name.length ≤ maxLen := by
  obtain ⟨y0, y1, y2, y3, n, hx, hl, h0, h1, h2, h3⟩ := Go.Joins.trod_struct4 Tryz.underlying60 h
  injection hx with hx _
  subst hx
  obtain ⟨c0, c1, c2, c3, rfl⟩ := four_of (hl.trans size25.2.1)
  simp only [size24.2.2.1, size25.2.2.1, size25.2.2.2, List.drop_zero, List.drop_succ_cons, List.take_succ_cons, List.take_zero] at h0 h1 h2 h3
  obtain ⟨s, e1, ex1, hs⟩ := DataW.trod_string Tryz.underlying9 h0
  obtain ⟨b, e2, ex2⟩ := DataW.trod_bool Tryz.underlying4 h1
  injection e1 with e1 _
  injection e2 with e2 _
  subst e1 e2
  simp only [Rows.uptoBulk, Rows.uptoBulkAll] at hB
  obtain ⟨fs, hF⟩ := fields_of (d := y2.1) (p := y2.2) (by omega) h2
  obtain ⟨ms, hM⟩ := fields_of (d := y3.1) (p := y3.2) (by omega) h3
  exact ⟨⟨s.data.toList, b, fs, ms⟩, c2, c3, by simp, hF, hM, by show s.data.toList.length ≤ _; rw [Array.length_toList]; exact hs⟩
set_option maxRecDepth 100000 in
/-- What is read as a table lies as one. -/
theorem decls_of {H : Type} {enc : TypeId × Value → H} {w : World} {base : Nat} {v : Value} {d : DataW H} {p : List MemPlace} (hok : Value.okWide Tryz.prog w .any base 35 v) (h : DataW.Trod enc Tryz.prog w 0 (fun _ => true) true 35 v d p) (hB : Rows.uptoBulk d ≤ 1048576) :
    (∃ ds, DL w ds v) ∧ ∀ x ∈ p, x.block < w.heap.size := by
  obtain ⟨a0, len0, cap0, rfl⟩ := okWide_slice Tryz.underlying35 hok
  obtain ⟨fuel, hf⟩ := h
  have hf' : DataW.trod enc Tryz.prog w 0 (fun _ => true) true fuel 35 [.slice a0 len0 cap0] = some (d, p) := by simpa [Value.cells] using hf
  refine ⟨?_, DataW.trod_lt fuel 35 _ _ hf'⟩
  rcases Go.Deep.open_slice Tryz.underlying35 hf' with ⟨e3, ex3⟩ | ⟨a, len, cap, mm, nn, D, Pl, e3, _, hlc, _, hmm, ex3, hel⟩
  · injection e3 with e3 _
    rw [e3]
    exact ⟨[], none, 0, rfl, fun j f hj => by simp at hj⟩
  · injection e3 with e3 _
    rw [e3]
    injection ex3 with ex3 _
    subst ex3
    simp only [if_true] at hmm
    subst hmm
    simp only [Rows.uptoBulk] at hB
    rw [size25.2.1] at hel
    have hi : ∀ i, i < len → ∃ q : Dc × Value × Value, w.cells? 0 (a.add (i * 4)) 4 = some [.string ⟨q.1.name.toArray⟩, .bool q.1.ifc, q.2.1, q.2.2] ∧ FL w q.1.fs q.2.1 ∧ FL w q.1.ms q.2.2 ∧ q.1.name.length ≤ maxLen := fun i hi => by
      obtain ⟨cs', hc, ht⟩ := hel i (by omega)
      have hm : Rows.uptoBulk (D i) ≤ Rows.uptoBulkAll ((List.range len).map D) := bulk_mem (List.mem_map.2 ⟨i, List.mem_range.2 hi, rfl⟩)
      obtain ⟨x, s1, s2, rfl, h1, h2, h3⟩ := decl_of (by omega) ht
      exact ⟨(x, s1, s2), hc, h1, h2, h3⟩
    obtain ⟨f, hf⟩ := Go.Deep.choose_lt (α := Dc × Value × Value) hi
    have hl : ((List.range len).map fun i => (f i).1).length = len := by simp
    refine ⟨(List.range len).map fun i => (f i).1, some a, mm, by rw [hl], fun i q hq => ?_⟩
    have hil : i < len := by
      rcases Nat.lt_or_ge i len with h1 | h1
      · exact h1
      · rw [List.getElem?_eq_none (by rw [hl]; exact h1)] at hq; cases hq
    rw [List.getElem?_map, List.getElem?_range hil] at hq
    simp at hq
    subst hq
    have hcell : ∀ i, i < len → ∀ r, r < 4 → w.cell? (a.add (i * 4 + r)) = [Value.string ⟨(f i).1.name.toArray⟩, .bool (f i).1.ifc, (f i).2.1, (f i).2.2][r]? := fun i hi r hr => by
      have := (World.cells?_some (hf i hi).1).2.2 r hr
      rwa [Go.Deep.add_add] at this
    obtain ⟨b, off, spot⟩ := a
    have hspot : spot = none := by
      have := hcell 0 (by omega) 0 (by omega)
      simpa [Addr.add] using World.cell?_spot this
    subst hspot
    have hc' : ∀ r, r < 4 → w.cell? ⟨b, off + i * 4 + r, none⟩ = [Value.string ⟨(f i).1.name.toArray⟩, .bool (f i).1.ifc, (f i).2.1, (f i).2.2][r]? := fun r hr => by
      have := hcell i hil r hr
      rwa [Go.WideShapes.add_plain, show off + (i * 4 + r) = off + i * 4 + r by omega] at this
    exact ⟨b, off, (f i).2.1, (f i).2.2, rfl, lt_of_cell (hc' 0 (by omega)), hc' 0 (by omega), hc' 1 (by omega), hc' 2 (by omega), hc' 3 (by omega), (hf i hil).2.1, (hf i hil).2.2.1, (hf i hil).2.2.2⟩
end Go.Proofs.YtbejkphekfbfnaaGreat
