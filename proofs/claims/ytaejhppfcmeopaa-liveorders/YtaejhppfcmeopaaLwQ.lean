/- A list of one's own behind which a list is put; turns that are an argument. -/
import Derived.Test.YtaejhppfcmeopaaLvY
import Derived.Test.YtaejhppfcmeopaaLvArg
import Derived.ArgAppend
namespace Go.Proofs.Ytaejhppfcmeopaa
open Go.ChangeShapes Go.WideShapes Go.ChangeAt Go.RowKit
/-- A list is put behind. -/
theorem row_app {w : World} {B : Nat} {v u : Value} {xs ys : List Int} (ho : w.ownsRow B 3 1 v xs.length (ints xs)) (hv : ∃ a n c, v = .slice (some a) n c) (hB : B ≤ w.heap.size) (R : IntsAt w u ys) (hl : xs.length + ys.length ≤ 1000000000) :
    ∃ v' w', (Builtin.append_ #[34, 34] 34 #[v, u]).run Try.prog w = .ok v' w' ∧ w'.ownsRow B 3 1 v' (xs ++ ys).length (ints (xs ++ ys)) ∧ (∃ a n c, v' = .slice (some a) n c) ∧ w.grownBy w' v.ownBlock := by
  obtain ⟨i0, hi, hz0, hz1, hz2⟩ := info_parts Try.info3
  obtain ⟨ao, c, rfl, _, hcell⟩ := R
  cases ys with
  | nil =>
    rcases ho.2 with ⟨h1, _⟩ | ⟨g, cap, cur, rfl, hBg, hg, hlc, h5, h6, h7⟩
    · obtain ⟨a, n, c', h2⟩ := hv; rw [h1] at h2; cases h2
    · refine ⟨.slice (some ⟨g, 0, none⟩) xs.length cap, w, ?_, by simpa using ho, ⟨_, _, _, rfl⟩, ⟨rfl, rfl, rfl, Nat.le_refl _, fun _ _ _ => rfl⟩⟩
      cases ao with
      | none =>
        have hroom : xs.length ≤ cap := by omega
        simp [Builtin.append_, run_underlying Try.underlying34, Builtin.lenOf, Go.sizeOf, typeInfo, hi, hroom, Builtin.firstCells, storeCells]
      | some a =>
        have hr := run_append_room_cells (P := Try.prog) (w := w) 34 34 3 i0 Try.underlying34 hi g 0 xs.length cap a 0 c [] (by simp) (by simp) (by simp) (by omega) (by simp) (by simp)
        simpa [World.setCells] using hr
  | cons y r =>
    obtain ⟨g, o, rfl, _, _⟩ := hcell 0 y rfl
    have hnews : ∀ (j : Nat) (u : Value), (ints (y :: r))[j]? = some u → w.cell? ((⟨g, o, none⟩ : Addr).add j) = some u := fun j u hu => by
      simp only [ints, List.getElem?_map, Option.map_eq_some_iff] at hu
      obtain ⟨z, hz, rfl⟩ := hu
      obtain ⟨g', o', e, _, h3⟩ := hcell j z hz
      cases e
      rw [show (⟨g, o, none⟩ : Addr).add j = ⟨g, o + j, none⟩ by cases j <;> simp [Addr.add]]
      exact h3
    have h1 : ∀ u ∈ ints (y :: r), u.oneCell' = true := fun u hu => by
      simp only [ints, List.mem_map] at hu
      obtain ⟨x, _, rfl⟩ := hu
      rfl
    obtain ⟨g2, cap2, w', hr, ho', hgr, _, _⟩ := run_append_lies (P := Try.prog) w 34 34 B 3 i0 _ 1 8 Try.underlying34 hi hz0 hz1 hz2 rfl (by decide) v xs.length (ints xs) ho ⟨g, o, none⟩ (y :: r).length c (ints (y :: r)) (by simp [ints]) hnews h1 (by simp) (by unfold maxLen; omega) (by omega) hB _ rfl
    refine ⟨_, w', hr, ?_, ⟨_, _, _, rfl⟩, hgr⟩
    rw [List.length_append, show ints (xs ++ y :: r) = ints xs ++ ints (y :: r) by simp [ints]]
    exact ho'
/-- Turns that lie somewhere. -/
def TurnsAt (w : World) (v : Value) (l : List Nat) : Prop := ∃ ao cap, v = .slice ao l.length cap ∧ l.length ≤ 9223372036854775807 ∧ ∀ (j u : Nat), l[j]? = some u → u < 256 ∧ ∃ b o, ao = some ⟨b, o, none⟩ ∧ b < w.heap.size ∧ w.cell? ⟨b, o + j, none⟩ = some (.int .u8 u)
theorem TurnsAt.below {w w' : World} {v : Value} {l : List Nat} (R : TurnsAt w v l) (hb : Below w.heap.size w w') : TurnsAt w' v l := by
  obtain ⟨ao, cap, h1, hl, h2⟩ := R
  refine ⟨ao, cap, h1, hl, fun j x hx => ?_⟩
  obtain ⟨h3, g, o, h4, h5, h6⟩ := h2 j x hx
  exact ⟨h3, g, o, h4, Nat.lt_of_lt_of_le h5 hb.size, by rw [keep_cell hb h5]; exact h6⟩
theorem cellsByte : Try.prog.cellsOf 5 = 1 := by kernel_rfl
theorem turns_of {H : Type} {enc : TypeId × Value → H} {W : World} {base : Nat} {v : Value} {d : DataW H} {p : List MemPlace} (hok : Value.okWide Try.prog W .any base 39 v) (h : DataW.Trod enc Try.prog W 0 (fun _ => true) true 39 v d p) :
    ∃ l : List Nat, TurnsAt W v l := by
  obtain ⟨a0, len, cap, rfl⟩ := okWide_slice Try.underlying39 hok
  obtain ⟨fuel, hf⟩ := h
  rcases open_ints Try.underlying39 Try.underlying5 cellsByte hf with ⟨hcs, _⟩ | ⟨a, len', cap', zs, hcs, _, hl, hm, hz, _, hcell, hwz⟩
  · simp [Value.cells] at hcs
    obtain ⟨rfl, rfl, rfl⟩ := hcs
    exact ⟨[], none, 0, rfl, by simp, by simp⟩
  · simp [Value.cells] at hcs
    obtain ⟨rfl, rfl, rfl⟩ := hcs
    simp at hz
    refine ⟨(zs.take len).map Int.toNat, some a, cap, by rw [List.length_map, List.length_take, Nat.min_eq_left (by omega)], by simp only [maxLen] at hm; rw [List.length_map, List.length_take]; omega, fun j u hj => ?_⟩
    have hjl := get_lt hj
    rw [List.length_map, List.length_take] at hjl
    have hjz : j < zs.length := by omega
    rw [List.getElem?_map, List.getElem?_take, if_pos (by omega), List.getElem?_eq_getElem hjz] at hj
    simp at hj
    have hw := bounds_u8 (hwz zs[j] (List.getElem_mem hjz))
    have hc := hcell j hjz
    rw [List.getD_eq_getElem?_getD, List.getElem?_eq_getElem hjz, Option.getD_some] at hc
    have hc0 := hcell 0 (by omega)
    rw [show a.add 0 = a by simp [Addr.add]] at hc0
    have hspot : a = ⟨a.block, a.off, none⟩ := by
      obtain ⟨b, o, sp⟩ := a
      cases sp with
      | none => rfl
      | some s => simp [World.cell?] at hc0; split at hc0 <;> simp at hc0
    refine ⟨by omega, a.block, a.off, congrArg some hspot, World.block_lt_of_cell? W a hc0, ?_⟩
    rw [hspot] at hc
    rw [show (⟨a.block, a.off + j, none⟩ : Addr) = (⟨a.block, a.off, none⟩ : Addr).add j by cases j <;> simp [Addr.add], hc]
    congr 2
    omega
/-- Each list is short, if the blocks are few. -/
theorem sumL_get {bs : List Blk} {i : Nat} {b : Blk} (h : bs[i]? = some b) : b.u.length + b.d.length + b.n.length ≤ sumL bs := by
  induction bs generalizing i with
  | nil => simp at h
  | cons a r ih =>
    cases i with
    | zero => simp at h; subst h; simp [sumL]
    | succ i =>
      have := ih (i := i) (by simpa using h)
      simp only [sumL]
      omega
theorem small_len {bs : List Blk} (h : smallP bs = true) {i : Nat} {b : Blk} (hb : bs[i]? = some b) : b.u.length + b.d.length + b.n.length ≤ 400 := by
  simp only [smallP, Bool.and_eq_true, decide_eq_true_eq] at h
  exact Nat.le_trans (sumL_get hb) h.2
end Go.Proofs.Ytaejhppfcmeopaa
