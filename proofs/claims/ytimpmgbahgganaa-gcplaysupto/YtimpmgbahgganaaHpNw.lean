/- New. -/
import Derived.Test.YtimpmgbahgganaaHpL
import Derived.Deep.DrawnRows
namespace Go.Proofs.Ytimpmgbahgganaa
open Go.RowKit Go.Maps
attribute [local go_sem ↓] Go.wp_at_zero Go.wp_at_succ

theorem Try.info65 : (Try.prog.info? 65).map (fun i => (i.zero, i.size, i.bytes)) = some (some (.slice none 0 0), 1, 24) := by kernel_rfl
/-- A new heap. -/
def newH (fs : List (List Int)) (n : Nat) : Hs := ⟨newS n, fs.map ptrs, fun _ => none⟩
theorem newH_inv {fs : List (List Int)} {n : Nat} (hn : n ≤ 65536) (hs : soundL fs = true) : HInv (newH fs n) := by
  unfold soundL at hs
  rw [Bool.and_eq_true, decide_eq_true_eq, List.all_eq_true] at hs
  refine ⟨inv_new hn, by simpa [newH] using hs.1, fun t f hf => ?_, fun a t n ho => by simp [newH] at ho, fun i p hp => by simp [newH, newS] at hp, fun v hv => ?_⟩
  · simp only [newH, List.getElem?_map, Option.map_eq_some_iff] at hf
    obtain ⟨f', h1, rfl⟩ := hf
    have h2 := hs.2 f' (List.mem_of_getElem? h1)
    unfold goodF at h2
    rw [Bool.and_eq_true, decide_eq_true_eq] at h2
    simpa [ptrs] using h2.1
  · simp only [newH, newS, List.mem_replicate] at hv
    rw [hv.2]; decide
section
variable {w : World}
theorem gnew_err {v : Value} {n : Int} (hn : n < 0 ∨ 65536 < n) : Calls Try.prog 7 #[v, .int .i64 n] w fun e w' => e = .returned (.tuple #[.pointer none, .int .i64 1]) ∧ w' = w := by
  go_enter Try.func7, Try.ntmps7
  go_wp2_with fail
  refine (new_err n w hn).mono ?_
  rintro e w1 ⟨rfl, rfl⟩
  go_wp2
  go_ret2
  exact ⟨rfl, rfl⟩
theorem gnew_bad {v : Value} {fs : List (List Int)} {n : Nat} (hn : n ≤ 65536) (R : LaysAt w v fs) (hs : soundL fs = false) : Calls Try.prog 7 #[v, .int .i64 n] w fun e w' => e = .returned (.tuple #[.pointer none, .int .i64 1]) ∧ Below w.heap.size w w' := by
  have hnew := new_any n w hn w.heap.size (Nat.le_refl _)
  go_enter Try.func7, Try.ntmps7
  go_wp2_with fail
  refine hnew.mono ?_
  rintro e w1 ⟨rfl, L1, hb1⟩
  have hso := sound_any (R.below hb1)
  rw [hs] at hso
  clear hnew R hs L1
  go_wp2_with fail
  refine hso.mono ?_
  rintro e w2 ⟨rfl, hb2⟩
  go_wp2
  go_ret2
  exact ⟨rfl, hb1.trans (hb2.mono hb1.size)⟩
/-- A type more is put behind the others. -/
theorem run_push {W : World} {B b m : Nat} {v a : Value} {xs : List Value} (hown : W.ownsRow B 65 1 v m xs) (hb : W.heap[b]? = some (.cells #[a] 65 (0, 0))) (ha : a.oneCell' = true) (hlen : m < 1000000000) (hB : B ≤ W.heap.size) :
    ∃ g cap w', (Builtin.append_ #[74, 74] 74 #[v, .slice (some ⟨b, 0, none⟩) 1 1]).run Try.prog W = .ok (.slice (some ⟨g, 0, none⟩) (m + 1) cap) w' ∧
      w'.ownsRow B 65 1 (.slice (some ⟨g, 0, none⟩) (m + 1) cap) (m + 1) (xs ++ [a]) ∧ W.grownBy w' v.ownBlock ∧ (v.ownBlock = some g ∨ g = W.heap.size) ∧ g < w'.heap.size := by
  obtain ⟨i0, hi, hz0, hz1, hz2⟩ := info_parts Try.info65
  exact run_append_lies (P := Try.prog) W 74 74 B 65 i0 _ 1 24 Try.underlying74 hi hz0 hz1 hz2 rfl (by decide) v m xs hown ⟨b, 0, none⟩ 1 1 [a] rfl (World.news_of_block hb)
    (by intro u hu; simp at hu; subst hu; exact ha) (by decide) (by unfold maxLen; omega) (by omega) hB _ rfl
/-- What a round of New comes to behind its call of pointers. -/
structure Pushed (Y : Hh) (w w4 : World) (h : Hs) (f : List Bool) (vb : Value) : Prop where
  ex : ∃ ga capa w5, (Builtin.append_ #[74, 74] 74 #[Y.vt, .slice (some ⟨w4.heap.size, 0, none⟩) 1 1]).run Try.prog (w4.alloc (.cells #[vb] 65)) = .ok (.slice (some ⟨ga, 0, none⟩) (h.ty.length + 1) capa) w5 ∧
    w5.frozen? ⟨Y.H, 1, none⟩ = false ∧ w5.cell? ⟨Y.H, 1, none⟩ = some Y.vt ∧ (w4.alloc (.cells #[vb] 65)).grownBy w5 Y.vt.ownBlock ∧
    HLies { Y with vt := .slice (some ⟨ga, 0, none⟩) (h.ty.length + 1) capa, tv := Y.tv ++ [vb] } (w5.setCell ⟨Y.H, 1, none⟩ (.slice (some ⟨ga, 0, none⟩) (h.ty.length + 1) capa)) { h with ty := h.ty ++ [f] } 0 ∧
    Below w.heap.size w (w5.setCell ⟨Y.H, 1, none⟩ (.slice (some ⟨ga, 0, none⟩) (h.ty.length + 1) capa))
theorem one_slice {B : Nat} {e : TypeId} {v : Value} {n : Nat} {xs : List Value} {W : World} (ho : W.ownsRow B e 1 v n xs) : v.oneCell' = true := by
  obtain ⟨ao, cap, rfl⟩ := row_form ho
  rfl
theorem push_any {Y : Hh} {W : World} {h : Hs} {u : Value} {f : List Int} (L : HLies Y W h 0) (hB : Y.X.B = w.heap.size) (hb : Below w.heap.size w W) (ht : h.ty.length ≤ 1025) (R : IntsAt W u f) (hf : f.length ≤ 4096) :
    Calls Try.prog 26 #[u] W fun e w4 => ∃ ab nb cb, e = .returned (.slice ab nb cb) ∧ Below W.heap.size W w4 ∧ Hid (Pushed Y w w4 h (ptrs f) (.slice ab nb cb)) := by
  refine (pointers_any R hf).mono ?_
  rintro e w4 ⟨vb, rfl, hvb, hb4⟩
  obtain ⟨ab, cb, hve⟩ := row_form hvb
  refine ⟨ab, (ptrs f).length, cb, by rw [hve], hb4, ?_⟩
  rw [← hve]
  have hz := hb4.size
  have hwW := hb.size
  have L4 := (L.below hb4).alloc (.cells #[vb] 65)
  have hvb4 : (w4.alloc (.cells #[vb] 65)).ownsRow Y.X.B 4 1 vb (ptrs f).length (bools (ptrs f)) := by
    have h1 := hvb.alloc (.cells #[vb] 65)
    refine ⟨h1.1, ?_⟩
    rcases h1.2 with h2 | ⟨g, cap, cur, e1, e2, e3⟩
    · exact .inl h2
    · exact .inr ⟨g, cap, cur, e1, by omega, e3⟩
  obtain ⟨ga, capa, w5, hrun, ho5, hg5, hat, hlt⟩ := run_push L4.tys (b := w4.heap.size) (a := vb) (heap_new _ _ rfl) (one_slice hvb) (by omega) (by simp; omega)
  obtain ⟨L6, hfz, hc⟩ := L4.push hvb4 (fun g hg h1 => by have := (hvb.lt g hg).1; have := (L.L.own_lt h1).2; omega) rfl ho5 hg5 (by
    rcases hat with h1 | h1
    · exact .inl h1
    · exact .inr (by omega))
  refine ⟨ga, capa, w5, hrun, hfz, hc, hg5, L6, ?_⟩
  have hb5 : Below w.heap.size w (w4.alloc (.cells #[vb] 65)) := (hb.trans (hb4.mono hwW)).alloc (by omega) _
  have hb6 := hb5.grown hg5 hb5.size (fun q hq => by rw [← hB]; exact (L.side_lt (.inr (.inr (.inl hq)))).1)
  exact hb6.setCell (by rw [← hB]; exact L.base.1) _
end
end Go.Proofs.Ytimpmgbahgganaa
