/- A table's first function; a list that is cloned and grows by one. -/
import Derived.Test.YtkdojpnihinpbaaDoorVfTa
import Derived.Shelf.Slices.Clone
namespace Go.Proofs.YtkdojpnihinpbaaDoor
open Go.RowKit
def Tryd.cloneA_ren : Go.Shelf.Ren := ⟨fun | 15 => 95 | n => n, fun | 22 => 37 | 3 => 3 | 4 => 4 | n => n, fun | n => n⟩
theorem Tryd.cloneA : Go.Proofs.Lays2.n15 Tryd.prog Tryd.cloneA_ren := {
  mixed := by kernel_rfl
  f15 := Tryd.func95.trans (congrArg some (by kernel_rfl))
  t3 := Tryd.underlying3
  a3 := Tryd.isAgg3
  z3 := Tryd.sizeOf3
  v3 := Tryd.zeroValue3
  t4 := Tryd.underlying4
  a4 := Tryd.isAgg4
  z4 := Tryd.sizeOf4
  v4 := Tryd.zeroValue4
  t22 := Tryd.underlying37
  a22 := Tryd.isAgg37
  z22 := Tryd.sizeOf37
  v22 := Tryd.zeroValue37
  i3 := by kernel_rfl }
theorem info_int : (Tryd.prog.info? 3).map (fun i => (i.zero, i.size, i.bytes)) = some (some (.int .i64 0), 1, 8) := by kernel_rfl
abbrev intsV (l : List Int) : List Value := l.map (Value.int .i64)
section
variable {w w' : World}
theorem clone_any {X : Nat → Prop} {v : Value} {l : List Int} (R : IsAt X w v l) (hl : l.length ≤ 100000000) : Calls Tryd.prog 95 #[v] w fun e w' => ∃ v', e = .returned v' ∧ w'.ownsRow w.heap.size 3 1 v' l.length (intsV l) ∧ Below w.heap.size w w' := by
  obtain ⟨ao, cap, rfl, _, _, h2⟩ := R
  cases ao with
  | none =>
    have h0 : l = [] := by
      cases l with
      | nil => rfl
      | cons x r =>
        obtain ⟨g, o, h3, _⟩ := h2 0 x rfl
        cases h3
    subst h0
    refine (Any.slices_Clone_int_nil Tryd.cloneA 0 cap w).mono ?_
    rintro e w' ⟨rfl, rfl⟩
    exact ⟨_, rfl, ⟨rfl, .inl ⟨rfl, rfl⟩⟩, Below.refl _ _⟩
  | some a =>
    cases l with
    | nil =>
      refine (Any.slices_Clone_int_zero Tryd.cloneA a cap w).mono ?_
      rintro e w' ⟨v', rfl, h3, _, h4⟩
      exact ⟨v', rfl, h3, h4⟩
    | cons x r =>
      obtain ⟨g, o, h3, _⟩ := h2 0 x rfl
      cases h3
      refine (Any.slices_Clone_int Tryd.cloneA g o (x :: r).length cap (x :: r) w (Nat.le_refl _) (by omega) (fun j hj => ?_)).mono ?_
      · obtain ⟨g', o', h3, _, _, h5⟩ := h2 j _ (List.getElem?_eq_getElem hj)
        cases h3
        rw [h5, List.getD_eq_getElem?_getD, List.getElem?_eq_getElem hj]; rfl
      · rintro e w' ⟨v', rfl, h3, _, h4⟩
        rw [List.take_length] at h3
        exact ⟨v', rfl, h3, h4⟩
/-- One number more behind a row of one's own. -/
theorem run_app1 {W : World} {B b m : Nat} {v : Value} {xs : List Value} {a : Int} (hown : W.ownsRow B 3 1 v m xs) (hb : W.heap[b]? = some (.cells #[.int .i64 a] 3 (0, 0))) (hlen : m < 1000000000) (hB : B ≤ W.heap.size) :
    ∃ g cap w', (Builtin.append_ #[37, 37] 37 #[v, .slice (some ⟨b, 0, none⟩) 1 1]).run Tryd.prog W = .ok (.slice (some ⟨g, 0, none⟩) (m + 1) cap) w' ∧
      w'.ownsRow B 3 1 (.slice (some ⟨g, 0, none⟩) (m + 1) cap) (m + 1) (xs ++ [.int .i64 a]) ∧ W.grownBy w' v.ownBlock ∧ (v.ownBlock = some g ∨ g = W.heap.size) ∧ g < w'.heap.size := by
  obtain ⟨i0, hi, hz0, hz1, hz2⟩ := info_parts info_int
  exact run_append_lies (P := Tryd.prog) W 37 37 B 3 i0 _ 1 8 Tryd.underlying37 hi hz0 hz1 hz2 rfl (by decide) v m xs hown ⟨b, 0, none⟩ 1 1 [.int .i64 a] rfl (World.news_of_block hb)
    (by intro u hu; simp at hu; subst hu; rfl) (by decide) (by unfold maxLen; omega) (by omega) hB _ rfl
/-- A row of one's own, as numbers that lie. -/
theorem row_is {W : World} {B n : Nat} {v : Value} {l : List Int} (h : W.ownsRow B 3 1 v n (intsV l)) (hn : n = l.length) : IsAt (fun j => j < B) W v l := by
  subst hn
  rcases h.2 with ⟨rfl, h0⟩ | ⟨g, cap, cur, rfl, h1, h2, h3, h4, h5, h6⟩
  · have := List.eq_nil_of_length_eq_zero h0
    subst this
    exact isAt_none
  · refine ⟨_, cap, rfl, h3, h4, fun j k hk => ⟨g, 0, rfl, lt_of_block h2, by omega, ?_⟩⟩
    rw [Nat.zero_add]
    refine cell_of h2 ?_
    have hj := get_lt hk
    have h7 : (cur.toList.take (l.length * 1))[j]? = some (.int .i64 k) := by rw [h6]; simp [hk]
    rw [List.getElem?_take, if_pos (by omega), Array.getElem?_toList] at h7
    exact h7
theorem grown_below {W : World} {B n : Nat} {v : Value} {xs : List Value} (h : W.ownsRow B 3 1 v n xs) (hg : W.grownBy w' v.ownBlock) (hB : B ≤ W.heap.size) : Below B W w' := by
  refine ⟨hg.os, hg.tape, hg.output, hg.size, fun j hj => ?_⟩
  rcases Nat.lt_or_ge j W.heap.size with hj2 | hj2
  · refine hg.block j hj2 ?_
    rcases h.2 with ⟨rfl, _⟩ | ⟨g, cap, cur, rfl, h1, _⟩
    · intro h; cases h
    · intro h
      simp only [Value.ownBlock, Option.some.injEq] at h
      omega
  · omega
variable {B A : Nat} {p : Pg} {f : Fd} {V : Fv} {fi at_ mo : Int}
set_option maxRecDepth 100000 in
set_option maxHeartbeats 1000000 in
theorem item_any (F : FlAt B w A p f V fi at_ mo) {t m0 : Nat} {tb : List Int} {fd : Fd} (ht : p.ta[t]? = some tb) (h0 : tb[0]? = some (m0 : Int)) (hf : p.fu[m0]? = some fd) :
    ∃ v1 v2 v3 v4, (SlAt 1 IntP B w v1 fd.lo ∧ SlAt 1 IntP B w v2 fd.re ∧ SlAt 1 IntP B w v3 fd.ar ∧ SlAt 3 InsP B w v4 fd.co) ∧ Calls Tryd.prog 96 #[.pointer (some ⟨A, 0, none⟩), .int .i64 t] w fun e w' => e = .returned (.agg #[.int .i64 fd.pa, v1, v2, v3, v4]) ∧ Below w.heap.size w w' := by
  obtain ⟨g, o, c, n, u, hv, hn, hlt, hg, hc, hsl⟩ := lst_at F.pg.ta ht
  obtain ⟨g2, o2, c2, n2, v1, v2, v3, v4, hv2, hn2, hlt2, hg2, ⟨y0, y1, y2, y3, y4⟩, r1, r2, r3, r4⟩ := fd_at F.pg.fu hf
  obtain ⟨ua, uc, rfl⟩ := sl_form hsl
  obtain ⟨ao, cap, hao, _, hel⟩ := hsl
  cases hao
  obtain ⟨g3, o3, rfl, hg3, hc3, _⟩ := ints_at hel h0
  rw [Nat.add_zero] at hc3
  obtain ⟨x1, z1, rfl⟩ := sl_form r1
  obtain ⟨x2, z2, rfl⟩ := sl_form r2
  obtain ⟨x3, z3, rfl⟩ := sl_form r3
  obtain ⟨x4, z4, rfl⟩ := sl_form r4
  refine ⟨_, _, _, _, ⟨r1, r2, r3, r4⟩, ?_⟩
  have q3 : w.cell? ⟨A, 3, none⟩ = some V.v2 := cell_of F.box rfl
  have q4 : w.cell? ⟨A, 4, none⟩ = some V.v3 := cell_of F.box rfl
  rw [hv2] at q3
  rw [hv] at q4
  have hlA := lt_of_block F.box
  have l1 : g < w.heap.size := Nat.lt_of_lt_of_le hg F.hB
  have l2 : g2 < w.heap.size := Nat.lt_of_lt_of_le hg2 F.hB
  have l3 : g3 < w.heap.size := Nat.lt_of_lt_of_le hg3 F.hB
  have e1 : decide (t < n) = true := by simpa using hlt
  have e2 : decide (m0 < n2) = true := by simpa using hlt2
  have e3 : decide (0 < tb.length) = true := by have := get_lt h0; simpa using this
  have e4 : (0 : Int) < (tb.length : Int) := by have := get_lt h0; omega
  clear hv hv2 hn hn2 F hel r1 r2 r3 r4 h0 ht hf
  generalize tb.length = tl at *
  generalize fd.lo.length = k1 at *
  generalize fd.re.length = k2 at *
  generalize fd.ar.length = k3 at *
  generalize fd.co.length = k4 at *
  go_enter Tryd.func96, Tryd.ntmps96
  go_wp2_with fail
  go_region
  all_goals go_wp2
  all_goals (
    refine bodyPost_ret (v := .agg #[.int .i64 fd.pa, .slice x1 k1 z1, .slice x2 k2 z2, .slice x3 k3 z3, .slice x4 k4 z4]) (by simp [results, Tryd.results96, go_sem]) rfl ⟨rfl, ?_⟩
    exact below_drew ((Below.refl _ _).alloc (Nat.le_refl _) _))
end
end Go.Proofs.YtkdojpnihinpbaaDoor
