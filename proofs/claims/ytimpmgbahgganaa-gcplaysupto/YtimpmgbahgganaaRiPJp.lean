/- Where what it reads is of bulk at most 1048576, the law GcPlays returns true for every list of types, every number and every script, and leaves its arguments as they were: whatever is done with a heap, in any order, answers as the document says. No other conditions. -/
import Derived.Test.YtimpmgbahgganaaRows
import Derived.Test.YtimpmgbahgganaaRiBJp
import Derived.ProofKit
import Derived.OpenShut
import Derived.JoinedCond
import Derived.Deep.Slices
import Derived.Deep.Strs
namespace Go.Proofs.Ytimpmgbahgganaa.gcPlaysProof
open Go.ChangeShapes Go.WideShapes Go.ChangeAt Go.RowKit

theorem own : ownKnob Try.prog.godebug = none := by kernel_rfl
theorem laidOut : laidOutB Try.prog = true := by kernel_rfl
theorem sizes : Try.prog.cellsOf 39 = 4 ∧ Try.prog.cellsOf 3 = 1 ∧ Try.prog.cellsOf 31 = 1 ∧ Try.prog.cellsOf 62 = 1 := ⟨by kernel_rfl, by kernel_rfl, by kernel_rfl, by kernel_rfl⟩
theorem bulk_pos {H : Type} (d : DataW H) : 1 ≤ Rows.uptoBulk d := by
  cases d with
  | lit l => cases l <;> simp [Rows.uptoBulk]
  | _ => simp [Rows.uptoBulk]
theorem bulk_mem {H : Type} {d : DataW H} : ∀ {l : List (DataW H)}, d ∈ l → Rows.uptoBulk d ≤ Rows.uptoBulkAll l
  | x :: r, h => by
    simp only [Rows.uptoBulkAll]
    rcases List.mem_cons.1 h with rfl | h
    · omega
    · have := bulk_mem h
      omega
theorem bulk_len {H : Type} : ∀ l : List (DataW H), l.length ≤ Rows.uptoBulkAll l
  | [] => by simp [Rows.uptoBulkAll]
  | x :: r => by
    have h1 := bulk_pos x
    have h2 := bulk_len r
    simp only [Rows.uptoBulkAll, List.length_cons]
    omega
theorem four_of {α : Type} {cs : List α} (h : cs.length = 4) : ∃ c0 c1 c2 c3, cs = [c0, c1, c2, c3] := by
  match cs, h with
  | [c0, c1, c2, c3], _ => exact ⟨c0, c1, c2, c3, rfl⟩
theorem one_of {α : Type} {cs : List α} (h : cs.length = 1) : ∃ c0, cs = [c0] := by
  match cs, h with
  | [c0], _ => exact ⟨c0, rfl⟩
theorem trod_struct4 {H : Type} {enc : TypeId × Value → H} {P : Program} {w : World} {base : Nat} {spare : Nat → Bool} {held : Bool} {t : TypeId} {f0 f1 f2 f3 : Field} {fuel : Nat} {cs : List Value} {x : DataW H × List MemPlace} (ht : P.underlying t = some (.struct #[f0, f1, f2, f3])) (h : DataW.trod enc P w base spare held fuel t cs = some x) :
    ∃ y0 y1 y2 y3 n, x.1 = .agg [y0.1, y1.1, y2.1, y3.1] ∧ cs.length = P.cellsOf t ∧ DataW.trod enc P w base spare held n f0.type ((cs.drop f0.offset).take (P.cellsOf f0.type)) = some y0 ∧
      DataW.trod enc P w base spare held n f1.type ((cs.drop f1.offset).take (P.cellsOf f1.type)) = some y1 ∧ DataW.trod enc P w base spare held n f2.type ((cs.drop f2.offset).take (P.cellsOf f2.type)) = some y2 ∧ DataW.trod enc P w base spare held n f3.type ((cs.drop f3.offset).take (P.cellsOf f3.type)) = some y3 := by
  obtain ⟨xs, n, _, rfl, hl, hlen, hf⟩ := DataW.trod_struct ht h
  match xs, hlen with
  | [y0, y1, y2, y3], _ => exact ⟨y0, y1, y2, y3, n, by simp, hl, by simpa using hf 0 f0 rfl, by simpa using hf 1 f1 rfl, by simpa using hf 2 f2 rfl, by simpa using hf 3 f3 rfl⟩
/-- A list of numbers within an argument. -/
theorem ints_of {H : Type} {enc : TypeId × Value → H} {w : World} {fuel : Nat} {vp : Value} {x : DataW H × List MemPlace} (h : DataW.trod enc Try.prog w 0 (fun _ => true) true fuel 31 [vp] = some x) :
    ∃ ps : List Int, IntsAt w vp ps ∧ ps.length ≤ Rows.uptoBulk x.1 := by
  rcases Go.Deep.open_slice1 Try.underlying31 sizes.2.1 h with ⟨hcs, _⟩ | ⟨a, len, cap, mm, nn, V, D, Pl, hcs, _, hlc, hcm, hmm, hx, hel⟩
  · simp at hcs
    subst hcs
    exact ⟨[], ⟨none, 0, rfl, by simp⟩, Nat.zero_le _⟩
  · simp at hcs
    subst hcs
    simp only [if_true] at hmm
    subst hmm
    have hi : ∀ i, i < len → ∃ q : Int, w.cell? (a.add i) = some (.int .i64 q) ∧ q ≤ 9223372036854775807 := fun i hi => by
      obtain ⟨hc, ht⟩ := hel i (by omega)
      obtain ⟨q, hq, _, hw⟩ := DataW.trod_int Try.underlying3 ht
      simp at hq
      exact ⟨q, by rw [hc, hq], (bounds_i64 hw).2⟩
    obtain ⟨f, hf⟩ := Go.Deep.choose_lt (α := Int) hi
    have hl : ((List.range len).map f).length = len := by simp
    refine ⟨(List.range len).map f, ⟨some a, mm, by rw [hl], fun i q hq => ?_⟩, ?_⟩
    · have hil := get_lt hq
      rw [hl] at hil
      rw [List.getElem?_map, List.getElem?_range hil] at hq
      simp at hq
      subst hq
      have hc := (hf i hil).1
      obtain ⟨b, off, spot⟩ := a
      have hspot : spot = none := by
        have h0 := (hf 0 (by omega)).1
        simpa [Addr.add] using World.cell?_spot h0
      subst hspot
      rw [show (⟨b, off, none⟩ : Addr).add i = ⟨b, off + i, none⟩ by cases i <;> simp [Addr.add]] at hc
      exact ⟨(hf i hil).2, b, off, rfl, World.block_lt_of_cell? w _ hc, hc⟩
    · rw [hl, hx]
      have h1 := bulk_len ((List.range len).map D)
      rw [List.length_map, List.length_range] at h1
      simp only [Rows.uptoBulk]
      omega
instance : Inhabited Op8D := ⟨⟨0, 0, 0, .slice none 0 0, []⟩⟩
/-- What an operation reads as. -/
theorem op_of {H : Type} {enc : TypeId × Value → H} {w : World} {fuel : Nat} {cs : List Value} {x : DataW H × List MemPlace} (h : DataW.trod enc Try.prog w 0 (fun _ => true) true fuel 39 cs = some x) :
    ∃ o : Op8D, cs = [.int .i64 o.k, .int .i64 o.x, .int .i64 o.y, o.vr] ∧ IntsAt w o.vr o.rs ∧ o.rs.length ≤ Rows.uptoBulk x.1 ∧ o.x ≤ 9223372036854775807 ∧ o.y ≤ 9223372036854775807 := by
  obtain ⟨y0, y1, y2, y3, n, hx, hl, h0, h1, h2, h3⟩ := trod_struct4 Try.underlying39 h
  obtain ⟨c0, c1, c2, c3, rfl⟩ := four_of (hl.trans sizes.1)
  simp only [sizes.2.1, sizes.2.2.1, List.drop_zero, List.drop_succ_cons, List.take_succ_cons, List.take_zero] at h0 h1 h2 h3
  obtain ⟨k, e0, _, _⟩ := DataW.trod_int Try.underlying3 h0
  obtain ⟨m, e1, _, hw1⟩ := DataW.trod_int Try.underlying3 h1
  obtain ⟨v, e2, _, hw2⟩ := DataW.trod_int Try.underlying3 h2
  obtain ⟨ps, hb, hc⟩ := ints_of h3
  injection e0 with e0 _
  injection e1 with e1 _
  injection e2 with e2 _
  subst e0 e1 e2
  refine ⟨⟨k, m, v, c3, ps⟩, rfl, hb, ?_, (bounds_i64 hw1).2, (bounds_i64 hw2).2⟩
  rw [hx]
  simp only [Rows.uptoBulk]
  have := bulk_mem (d := y3.1) (l := [y0.1, y1.1, y2.1, y3.1]) (by simp)
  show ps.length ≤ _
  omega
set_option maxRecDepth 100000 in
/-- Types that are an argument. -/
theorem lays_of {H : Type} {enc : TypeId × Value → H} {w : World} {base : Nat} {v : Value} {d : DataW H} {p : List MemPlace} (hok : Value.okWide Try.prog w .any base 22 v) (h : DataW.Trod enc Try.prog w 0 (fun _ => true) true 22 v d p) :
    ∃ fs : List (List Int), LaysAt w v fs := by
  obtain ⟨a0, len, cap, rfl⟩ := okWide_slice Try.underlying22 hok
  obtain ⟨fuel, hf⟩ := h
  rcases Go.Deep.open_slice1 Try.underlying22 sizes.2.2.2 hf with ⟨hcs, _⟩ | ⟨a, len', cap', mm, nn, V, D, Pl, hcs, _, hlc, _, hmm, _, hel⟩
  · simp [Value.cells] at hcs
    obtain ⟨rfl, rfl, rfl⟩ := hcs
    exact ⟨[], none, 0, rfl, by simp⟩
  · simp [Value.cells] at hcs
    obtain ⟨rfl, rfl, rfl⟩ := hcs
    simp only [if_true] at hmm
    subst hmm
    have hi : ∀ i, i < len → ∃ q : List Int, w.cell? (a.add i) = some (V i) ∧ IntsAt w (V i) q := fun i hi => by
      obtain ⟨hc, ht⟩ := hel i (by omega)
      obtain ⟨y0, n, _, _, h0⟩ := Go.ChangeShapes.trod_struct1 Try.underlying62 ht
      simp only [sizes.2.2.1, List.drop_zero, List.take_succ_cons, List.take_zero] at h0
      obtain ⟨ps, hb, _⟩ := ints_of h0
      exact ⟨ps, hc, hb⟩
    obtain ⟨f, hf⟩ := Go.Deep.choose_lt (α := List Int) hi
    have hl : ((List.range len).map f).length = len := by simp
    refine ⟨(List.range len).map f, some a, mm, by rw [hl], fun i q hq => ?_⟩
    have hil := get_lt hq
    rw [hl] at hil
    rw [List.getElem?_map, List.getElem?_range hil] at hq
    simp at hq
    subst hq
    have hc := (hf i hil).1
    obtain ⟨b, off, spot⟩ := a
    have hspot : spot = none := by
      have h0 := (hf 0 (by omega)).1
      simpa [Addr.add] using World.cell?_spot h0
    subst hspot
    rw [show (⟨b, off, none⟩ : Addr).add i = ⟨b, off + i, none⟩ by cases i <;> simp [Addr.add]] at hc
    exact ⟨b, off, V i, rfl, World.block_lt_of_cell? w _ hc, hc, (hf i hil).2⟩
set_option maxRecDepth 100000 in
/-- A script that is an argument. -/
theorem ops_of {H : Type} {enc : TypeId × Value → H} {w : World} {base : Nat} {v : Value} {d : DataW H} {p : List MemPlace} (hok : Value.okWide Try.prog w .any base 23 v) (h : DataW.Trod enc Try.prog w 0 (fun _ => true) true 23 v d p) :
    ∃ l : List Op8D, (Rows.uptoBulk d ≤ 1048576 → Scr8 w v l) := by
  obtain ⟨a0, len, cap, rfl⟩ := okWide_slice Try.underlying23 hok
  obtain ⟨fuel, hf⟩ := h
  rcases Go.Deep.open_slice Try.underlying23 hf with ⟨hcs, _⟩ | ⟨a, len', cap', mm, nn, D, Pl, hcs, _, hlc, _, hmm, hx, hel⟩
  · simp [Value.cells] at hcs
    obtain ⟨rfl, rfl, rfl⟩ := hcs
    exact ⟨[], fun _ => ⟨none, 0, rfl, by simp⟩⟩
  · simp [Value.cells] at hcs
    obtain ⟨rfl, rfl, rfl⟩ := hcs
    simp only [if_true] at hmm
    subst hmm
    rw [sizes.1] at hel
    have hi : ∀ i, i < len → ∃ o : Op8D, w.cells? 0 (a.add (i * 4)) 4 = some [.int .i64 o.k, .int .i64 o.x, .int .i64 o.y, o.vr] ∧ IntsAt w o.vr o.rs ∧ o.rs.length ≤ Rows.uptoBulk (D i) ∧ o.x ≤ 9223372036854775807 ∧ o.y ≤ 9223372036854775807 := fun i hi => by
      obtain ⟨cs', hc, ht⟩ := hel i (by omega)
      obtain ⟨o, rfl, h1⟩ := op_of ht
      exact ⟨o, hc, h1⟩
    obtain ⟨f, hf⟩ := Go.Deep.choose_lt (α := Op8D) hi
    refine ⟨(List.range len).map f, fun hbk => ⟨some a, mm, by simp, fun j o hj => ?_⟩⟩
    have hjl := get_lt hj
    rw [List.length_map, List.length_range] at hjl
    rw [List.getElem?_map, List.getElem?_range hjl] at hj
    simp at hj
    subst hj
    have hcell : ∀ r, r < 4 → w.cell? (a.add (j * 4 + r)) = [Value.int .i64 (f j).k, .int .i64 (f j).x, .int .i64 (f j).y, (f j).vr][r]? := fun r hr => by
      have := (World.cells?_some (hf j hjl).1).2.2 r hr
      rwa [Go.Deep.add_add] at this
    obtain ⟨b, off, spot⟩ := a
    have c0 := hcell 0 (by omega)
    have c1 := hcell 1 (by omega)
    have c2 := hcell 2 (by omega)
    have c3 := hcell 3 (by omega)
    have hspot : spot = none := by
      have h0 := (World.cells?_some (hf 0 (by omega)).1).2.2 0 (by omega)
      rw [Go.Deep.add_add] at h0
      simpa [Addr.add] using World.cell?_spot h0
    subst hspot
    have ad : ∀ r, (⟨b, off, none⟩ : Addr).add r = ⟨b, off + r, none⟩ := fun r => by cases r <;> simp [Addr.add]
    rw [ad] at c0 c1 c2 c3
    refine ⟨b, off, rfl, World.block_lt_of_cell? w _ c0, ?_, ?_, ?_, ?_, (hf j hjl).2.1, ?_, (hf j hjl).2.2.2⟩
    · rw [show off + j * 4 = off + (j * 4 + 0) by omega]; exact c0
    · rw [show off + j * 4 + 1 = off + (j * 4 + 1) by omega]; exact c1
    · rw [show off + j * 4 + 2 = off + (j * 4 + 2) by omega]; exact c2
    · rw [show off + j * 4 + 3 = off + (j * 4 + 3) by omega]; exact c3
    · have h1 := (hf j hjl).2.2.1
      have h2 := bulk_mem (d := D j) (l := (List.range len).map D) (List.mem_map.2 ⟨j, List.mem_range.2 hjl, rfl⟩)
      have hd : d = (DataW.slice ((List.range len).map D) ((List.range (mm - len)).map fun j => D (len + j))) := congrArg Prod.fst hx
      rw [hd] at hbk
      simp only [Rows.uptoBulk] at hbk
      omega

theorem small {H : Type} {d0 d1 d2 : DataW H} (hk : Rows.uptoSmall H [d0, d1, d2] = true) : Rows.uptoBulk d2 ≤ 1048576 := by
  have h : Rows.uptoBulkAll [d0, d1, d2] ≤ 1048576 := of_decide_eq_true hk
  simp only [Rows.uptoBulkAll] at h
  omega

set_option maxRecDepth 100000 in
theorem lifted (os : Os) (started : os.Started) (H : Type) (enc : TypeId × Value → H) (F : Stop.Interp) :
    ReturnsInHanded {} Try.checked os 3 .any ((Rows.OpenSpec.upto Rows.gcPlaysSpec).pre6 enc Try.prog Try.f3 Rows.gcPlaysUptoRow.domain false) (((Rows.OpenSpec.upto Rows.gcPlaysSpec).at F).post enc Try.prog Try.f3 false true false false) := by
  refine returnsInHanded_of_cond (C := Try.checked) (s := Rows.OpenSpec.upto Rows.gcPlaysSpec) (k := Rows.uptoSmall) rfl own started (by kernel_rfl) Try.func3
    (OpenSpec.witness (enc := enc) (C := Try.checked) (s := Rows.OpenSpec.upto Rows.gcPlaysSpec) (k := Rows.uptoSmall) rfl false ⟨#[], #[.slice none 0 0, .int .i64 0, .slice none 0 0], []⟩ 8 (by kernel_rfl) (by kernel_rfl) (by kernel_rfl)
      (x := ([.nil, .lit (.int .i64 0), .nil], [], [])) (by kernel_rfl) rfl (by kernel_rfl)) ?_
  intro W base args ds gs before hval0 hW _ hk _
  have hval : ∀ (j : Nat) t v, Try.f3.params[j]? = some t → args[j]? = some v → Value.okWide Try.prog W .any base t v := hval0
  have hW' := hW
  obtain ⟨p, q, hA0, hV, rfl, hfz, hnd⟩ := hW
  have hA : DataW.TrodAll enc Try.prog W 0 (fun _ => true) true Try.f3.params.toList args.toList ds p := hA0
  rw [Try.params3] at hA hval
  obtain ⟨v0, vs0, d0, ds0, p0, q0, hargs, rfl, rfl, h0, r0⟩ := trodAll_cons hA
  obtain ⟨v1, vs1, d1, ds1, p1, q1, rfl, rfl, rfl, h1, r1⟩ := trodAll_cons r0
  obtain ⟨v2, vs2, d2, ds2, p2, q2, rfl, rfl, rfl, h2, r2⟩ := trodAll_cons r1
  obtain ⟨rfl, rfl, rfl⟩ := trodAll_nil r2
  obtain rfl : args = #[v0, v1, v2] := by cases args; simp_all
  obtain ⟨rfl, rfl⟩ := trodVars_none hV
  obtain ⟨fs, hfs⟩ := lays_of (hval 0 22 v0 rfl rfl) h0
  obtain ⟨a1, rfl, rfl, rfl, w1⟩ := open_int Try.underlying3 (hval 1 3 v1 rfl rfl) h1
  obtain ⟨l, hl⟩ := ops_of (hval 2 23 v2 rfl rfl) h2
  clear hA0 hval0
  simp only [List.append_nil] at hW' hk
  have hl2 := hl (small hk)
  have hlt0 : ∀ x ∈ p0, x.block < W.heap.size := fun x hx => hW'.lt x (by simp [hx])
  have hlt2 : ∀ x ∈ p2, x.block < W.heap.size := fun x hx => hW'.lt x (by simp [hx])
  refine (plays_law a1 hfs hl2).mono fun e W' ⟨he, hb⟩ => ?_
  subst he
  have t0 : DataW.Trod enc Try.prog W' 0 (fun b => decide (b < W.heap.size)) true 22 v0 d0 p0 := Below.trod laidOut (by kernel_rfl) (of_decide_eq_true (by kernel_rfl)) h0 hb (fun x hx => hlt0 x hx)
  have t2 : DataW.Trod enc Try.prog W' 0 (fun b => decide (b < W.heap.size)) true 23 v2 d2 p2 := Below.trod laidOut (by kernel_rfl) (of_decide_eq_true (by kernel_rfl)) h2 hb (fun x hx => hlt2 x hx)
  exact ⟨_, rfl, _, _, _, [], p0 ++ ([] ++ (p2 ++ [])), [], hW', (trodAll_cons_mk (shut_bool Try.underlying4 _) trodAll_mk0), (trodAll_cons_mk t0 (trodAll_cons_mk (shut_int Try.underlying3 w1) (trodAll_cons_mk t2 trodAll_mk0))), rfl, hb.frame _, fun h => by cases h⟩

theorem over : Rows.GcPlaysUptoSaid :=
  OpenClaim.holds_of_cond 3 Try.f3 rfl rfl rfl rfl rfl rfl rfl ⟨rfl, rfl, rfl, rfl, rfl⟩ rfl rfl rfl rfl rfl (by kernel_rfl) Try.func3 (by kernel_rfl)
    (of_decide_eq_true (by kernel_rfl)) (by unfold Func.isWrapper; first | (rw [if_pos (by decide +kernel)]; kernel_rfl) | (rw [if_neg (by decide +kernel)]; exact ⟨rfl, rfl⟩))
    (fun os started H enc _ F => lifted os started H enc F)
end Go.Proofs.Ytimpmgbahgganaa.gcPlaysProof
namespace Go.Proofs.Ytimpmgbahgganaa
/-- The statement. -/
theorem gcPlays_upto : Rows.GcPlaysUptoSaid := gcPlaysProof.over
#print axioms gcPlays_upto
end Go.Proofs.Ytimpmgbahgganaa
