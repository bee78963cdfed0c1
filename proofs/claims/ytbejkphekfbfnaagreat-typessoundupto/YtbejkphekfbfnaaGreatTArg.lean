/- A type that is an argument: where it lies, and how large it is. -/
import Derived.Test.YtbejkphekfbfnaaGreatTyG
import Derived.Test.YtbejkphekfbfnaaGreatRows
import Derived.Deep.Slices
import Derived.Lib.SmallJoins
import Derived.OpenShut
namespace Go.Proofs.YtbejkphekfbfnaaGreat
open Go.ChangeShapes Go.WideShapes Go.ChangeAt Go.RowKit

instance : Inhabited Tr := ⟨.mk 0 [] 0 []⟩
theorem bulk_mem {H : Type} : ∀ {l : List (DataW H)} {x : DataW H}, x ∈ l → Rows.uptoBulk x ≤ Rows.uptoBulkAll l
  | y :: l, x, h => by
    rcases List.mem_cons.1 h with rfl | h
    · simp only [Rows.uptoBulkAll]; omega
    · have := bulk_mem h; simp only [Rows.uptoBulkAll]; omega
theorem kl_map {w : World} {S : Nat → Prop} (f : Nat → Tr × Value) : ∀ l : List Nat, (∀ i ∈ l, KT w S (f i).1 (f i).2) → KL w S (l.map fun i => (f i).1) (l.map fun i => (f i).2)
  | [], _ => by simp [KL]
  | i :: l, h => by
    simp only [List.map_cons, KL]
    exact ⟨_, _, rfl, h i (by simp), kl_map f l fun j hj => h j (by simp [hj])⟩
theorem cnt_map {H : Type} (f : Nat → Tr × Value) (D : Nat → DataW H) : ∀ l : List Nat, (∀ i ∈ l, cntN (f i).1 ≤ Rows.uptoBulk (D i)) → cntNL (l.map fun i => (f i).1) ≤ Rows.uptoBulkAll (l.map D)
  | [], _ => by simp [cntNL]
  | i :: l, h => by
    have := cnt_map f D l fun j hj => h j (by simp [hj])
    have := h i (by simp)
    simp only [List.map_cons, cntNL, Rows.uptoBulkAll]; omega
theorem cells_map {w : World} {g o : Nat} (f : Nat → Tr × Value) : ∀ (n s : Nat), (∀ i, s ≤ i → i < s + n → w.cell? ⟨g, o + i * 4, none⟩ = some (.int .i64 (f i).1.kind) ∧ w.cell? ⟨g, o + i * 4 + 1, none⟩ = some (.string ⟨(f i).1.text.toArray⟩) ∧ w.cell? ⟨g, o + i * 4 + 2, none⟩ = some (.int .i64 (f i).1.num) ∧ w.cell? ⟨g, o + i * 4 + 3, none⟩ = some (f i).2) →
    ∀ (j : Nat) u, (cellsOf ((List.range' s n).map fun i => (f i).1) ((List.range' s n).map fun i => (f i).2))[j]? = some u → w.cell? ⟨g, o + s * 4 + j, none⟩ = some u
  | 0, s, _, j, u, h => by simp [cellsOf] at h
  | n + 1, s, hc, j, u, h => by
    obtain ⟨c0, c1, c2, c3⟩ := hc s (Nat.le_refl _) (by omega)
    simp only [List.range'_succ, List.map_cons, cellsOf] at h
    match j, h with
    | 0, h => simp at h; subst h; exact c0
    | 1, h => simp at h; subst h; exact c1
    | 2, h => simp at h; subst h; exact c2
    | 3, h => simp at h; subst h; exact c3
    | j + 4, h =>
      have := cells_map f n (s + 1) (fun i h1 h2 => hc i (by omega) (by omega)) j u (by simpa using h)
      rwa [show o + (s + 1) * 4 + j = o + s * 4 + (j + 4) by omega] at this
theorem four_of {α : Type} {cs : List α} (h : cs.length = 4) : ∃ c0 c1 c2 c3, cs = [c0, c1, c2, c3] := by
  match cs, h with
  | [c0, c1, c2, c3], _ => exact ⟨c0, c1, c2, c3, rfl⟩
set_option maxRecDepth 20000 in
theorem size24 : Tryz.prog.cellsOf 27 = 4 ∧ Tryz.prog.cellsOf 3 = 1 ∧ Tryz.prog.cellsOf 9 = 1 ∧ Tryz.prog.cellsOf 25 = 1 := ⟨by kernel_rfl, by kernel_rfl, by kernel_rfl, by kernel_rfl⟩
/-- What a node reads as is a tree that lies. -/
theorem tree_of {H : Type} {enc : TypeId × Value → H} {w : World} : ∀ (B : Nat) {fuel : Nat} {cs : List Value} {d : DataW H} {p : List MemPlace}, Rows.uptoBulk d ≤ B → DataW.trod enc Tryz.prog w 0 (fun _ => true) true fuel 27 cs = some (d, p) →
    ∃ (t : Tr) (sl : Value), cs = [.int .i64 t.kind, .string ⟨t.text.toArray⟩, .int .i64 t.num, sl] ∧ KT w (fun b => b < w.heap.size) t sl ∧ cntN t ≤ Rows.uptoBulk d ∧ ∀ n, TxN n t := by
  intro B
  induction B with
  | zero =>
    intro fuel cs d p hB h
    obtain ⟨y0, y1, y2, y3, n, hx, _⟩ := Go.Joins.trod_struct4 Tryz.underlying27 h
    injection hx with hx _
    subst hx
    simp only [Rows.uptoBulk] at hB
    omega
  | succ B ih =>
    intro fuel cs d p hB h
    obtain ⟨y0, y1, y2, y3, n, hx, hl, h0, h1, h2, h3⟩ := Go.Joins.trod_struct4 Tryz.underlying27 h
    injection hx with hx _
    subst hx
    obtain ⟨c0, c1, c2, c3, rfl⟩ := four_of (hl.trans size24.1)
    simp only [size24.2.1, size24.2.2.1, size24.2.2.2, List.drop_zero, List.drop_succ_cons, List.take_succ_cons, List.take_zero] at h0 h1 h2 h3
    obtain ⟨k, e0, ex0, _⟩ := DataW.trod_int Tryz.underlying3 h0
    obtain ⟨s, e1, ex1, hs⟩ := DataW.trod_string Tryz.underlying9 h1
    obtain ⟨m, e2, ex2, _⟩ := DataW.trod_int Tryz.underlying3 h2
    injection e0 with e0 _
    injection e1 with e1 _
    injection e2 with e2 _
    subst e0 e1 e2 ex0 ex1 ex2
    have es : (⟨s.data.toList.toArray⟩ : ByteArray) = s := by cases s; simp
    have hs2 : s.data.toList.length ≤ maxLen := by rw [Array.length_toList]; exact hs
    simp only [Rows.uptoBulk, Rows.uptoBulkAll] at hB ⊢
    rcases Go.Deep.open_slice Tryz.underlying25 h3 with ⟨e3, ex3⟩ | ⟨a, len, cap, mm, nn, D, Pl, e3, _, hlc, _, hmm, ex3, hel⟩
    · injection e3 with e3 _
      subst e3 ex3
      refine ⟨.mk k s.data.toList m [], .slice none 0 0, by simp only [Tr.kind, Tr.text, Tr.num, es], ?_, ?_, ?_⟩
      · simp only [KT]; exact ⟨[], .inl ⟨rfl, none, 0, rfl⟩, by simp [KL]⟩
      · simp only [cntN, cntNL]; omega
      · intro n
        cases n with
        | zero => trivial
        | succ n => exact ⟨hs2, fun k hk => by cases hk⟩
    · injection e3 with e3 _
      subst e3 ex3
      simp only [if_true] at hmm
      subst hmm
      simp only [Rows.uptoBulk] at hB ⊢
      rw [size24.1] at hel
      have hi : ∀ i, i < len → ∃ q : Tr × Value, w.cells? 0 (a.add (i * 4)) 4 = some [.int .i64 q.1.kind, .string ⟨q.1.text.toArray⟩, .int .i64 q.1.num, q.2] ∧ KT w (fun b => b < w.heap.size) q.1 q.2 ∧ cntN q.1 ≤ Rows.uptoBulk (D i) ∧ ∀ n, TxN n q.1 := fun i hi => by
        obtain ⟨cs', hc, ht⟩ := hel i (by omega)
        have hm : Rows.uptoBulk (D i) ≤ Rows.uptoBulkAll ((List.range len).map D) := bulk_mem (List.mem_map.2 ⟨i, List.mem_range.2 hi, rfl⟩)
        obtain ⟨t, sl, rfl, h1, h2, h3⟩ := ih (by omega) ht
        exact ⟨(t, sl), hc, h1, h2, h3⟩
      obtain ⟨f, hf⟩ := Go.Deep.choose_lt (α := Tr × Value) hi
      refine ⟨.mk k s.data.toList m ((List.range' 0 len).map fun i => (f i).1), .slice (some a) len mm, by simp only [Tr.kind, Tr.text, Tr.num, es], ?_, ?_, ?_⟩
      · simp only [KT]
        refine ⟨(List.range' 0 len).map fun i => (f i).2, ?_, kl_map f _ fun i hi => (hf i (by simpa using hi)).2.1⟩
        rw [List.length_map, List.length_range']
        by_cases h0 : len = 0
        · subst h0; exact .inl ⟨rfl, _, _, rfl⟩
        · have hcell : ∀ i, i < len → ∀ r, r < 4 → w.cell? (a.add (i * 4 + r)) = [Value.int .i64 (f i).1.kind, .string ⟨(f i).1.text.toArray⟩, .int .i64 (f i).1.num, (f i).2][r]? := fun i hi r hr => by
            have := (World.cells?_some (hf i hi).1).2.2 r hr
            rwa [Go.Deep.add_add] at this
          obtain ⟨b, off, spot⟩ := a
          have hspot : spot = none := by
            have := hcell 0 (by omega) 0 (by omega)
            simpa [Addr.add] using World.cell?_spot this
          subst hspot
          have hc' : ∀ i, i < len → ∀ r, r < 4 → w.cell? ⟨b, off + i * 4 + r, none⟩ = [Value.int .i64 (f i).1.kind, .string ⟨(f i).1.text.toArray⟩, .int .i64 (f i).1.num, (f i).2][r]? := fun i hi r hr => by
            have := hcell i hi r hr
            rwa [Go.WideShapes.add_plain, show off + (i * 4 + r) = off + i * 4 + r by omega] at this
          refine .inr ⟨b, off, mm, rfl, hlc, ?_, fun j u hj => ?_⟩
          · exact lt_of_cell (hc' 0 (by omega) 0 (by omega))
          · have := cells_map (w := w) (g := b) (o := off) f len 0 (fun i _ hi => ⟨hc' i (by omega) 0 (by omega), hc' i (by omega) 1 (by omega), hc' i (by omega) 2 (by omega), hc' i (by omega) 3 (by omega)⟩) j u hj
            simpa using this
      · simp only [cntN]
        have := cnt_map f D (List.range' 0 len) fun i hi => (hf i (by simpa using hi)).2.2.1
        rw [← List.range_eq_range'] at this ⊢
        omega
      · intro n
        cases n with
        | zero => trivial
        | succ n =>
          refine ⟨hs2, fun k hk => ?_⟩
          obtain ⟨i, hi, rfl⟩ := List.mem_map.1 hk
          exact (hf i (by simpa using hi)).2.2.2 n
set_option maxRecDepth 100000 in
/-- What is read as a type lies as one. -/
theorem ty_of {H : Type} {enc : TypeId × Value → H} {w : World} {base : Nat} {v : Value} {d : DataW H} {p : List MemPlace} (hval : Value.okWide Tryz.prog w .any base 27 v) (h : DataW.Trod enc Tryz.prog w 0 (fun _ => true) true 27 v d p) (hb : Rows.uptoBulk d ≤ 1048576) :
    (∃ t sl, v = tv t sl ∧ Ty w t sl) ∧ ∀ x ∈ p, x.block < w.heap.size := by
  obtain ⟨cs, rfl, hsz⟩ := okWide_struct Tryz.underlying27 hval
  obtain ⟨fuel, hf⟩ := h
  have hf' : DataW.trod enc Tryz.prog w 0 (fun _ => true) true fuel 27 cs.toList = some (d, p) := by simpa [Value.cells] using hf
  obtain ⟨t, sl, hcs, hkt, hcn, htx⟩ := tree_of (Rows.uptoBulk d) (Nat.le_refl _) hf'
  obtain rfl : cs = #[.int .i64 t.kind, .string ⟨t.text.toArray⟩, .int .i64 t.num, sl] := by cases cs; simpa using hcs
  exact ⟨⟨t, sl, rfl, hkt, htx, by omega⟩, DataW.trod_lt fuel 27 _ _ hf'⟩
end Go.Proofs.YtbejkphekfbfnaaGreat
