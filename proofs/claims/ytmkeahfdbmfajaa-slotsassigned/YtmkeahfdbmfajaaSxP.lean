/- Assign: a slot to each range. -/
import Derived.Test.YtmkeahfdbmfajaaSxL
import Derived.Test.YtmkeahfdbmfajaaSxI
namespace Go.Proofs.Ytmkeahfdbmfajaa
open Go.RowKit
/-- The slots that are told, and their count. -/
def sltP (l : List Rg) : List Int := if fltP l = 0 then (asgP l).2 else []
def cntP (l : List Rg) : Nat := if fltP l = 0 then (asgP l).1.length else 0
/-- What lies beside the places: the slots that are told, and the order. -/
structure As (w w0 : World) (B g o : Nat) (l : List Rg) (sl : List Int) : Prop where
  b : Below w.heap.size w w0
  hB : w.heap.size ≤ B
  hg : w.heap.size ≤ g
  gB : g ≠ B
  oB : o ≠ B
  og : o ≠ g
  ol : o < w0.heap.size
  s : w0.heap[g]? = some (.cells (ints sl).toArray 3 (0, 0))
  r : ∀ (j a : Nat), (ordP l)[j]? = some a → w0.cell? ⟨o, j, none⟩ = some (.int .i64 a)
section
variable {w w0 wr : World} {B g o : Nat} {l : List Rg} {sl : List Int} {fr tk : List Nat} {un : List Int} {t : Int}
theorem heap_set (w : World) (b o : Nat) (u : Value) (j : Nat) : (w.setCell ⟨b, o, none⟩ u).heap[j]? = if b = j then (w.heap[j]?).map (Go.Sort.onCells (·.setIfInBounds o u)) else w.heap[j]? := by
  rw [Go.Sort.setCell_eq]
  show (w.heap.modify b _)[j]? = _
  rw [Array.getElem?_modify]
theorem set_size (w : World) (a : Addr) (u : Value) : (w.setCell a u).heap.size = w.heap.size := by simp
theorem As.step (A : As w w0 B g o l sl) (a : Nat) (s : Int) : As w (w0.setCell ⟨g, a, none⟩ (.int .i64 s)) B g o l (sl.set a s) := by
  obtain ⟨h1, h2, h3, h4, h5, h6, h7, h8, h9⟩ := A
  refine ⟨Kp.below (Nat.le_refl _) h1 (Kp.setCell _ _ _) (fun b hb => by omega), h2, h3, h4, h5, h6, by simpa using h7, ?_, fun j x hx => ?_⟩
  · rw [heap_setCell_same _ _ _ _ h8, ints_set, List.setIfInBounds_toArray]
  · rw [← h9 j x hx]
    exact World.cell?_of_block (a := ⟨o, j, none⟩) (Below.heap_setCell _ _ _ _ (by simpa using h6))
theorem Ps.slot (V : Ps w0 wr B fr tk un) (hg : g < w0.heap.size) (gB : g ≠ B) (i : Nat) (u : Value) : Ps (w0.setCell ⟨g, i, none⟩ u) (wr.setCell ⟨g, i, none⟩ u) B fr tk un := by
  obtain ⟨f, V⟩ := V
  refine ⟨f, ?_, fun t ht => ?_, V.apart, ?_⟩
  · rw [Below.heap_setCell _ _ _ _ (by simpa using Ne.symm gB)]; exact V.blk
  · have hr := V.rows t ht
    rw [set_size]
    refine ownsRow_keep hr fun b hb => Below.heap_setCell _ _ _ _ ?_
    have := (hr.lt b hb).1
    show b ≠ g
    omega
  · refine ⟨V.k.os, V.k.tape, V.k.output, by simpa using V.k.size, fun j hj hx => ?_⟩
    rw [set_size] at hj
    rw [heap_set, heap_set, V.k.block j hj hx]
theorem Ps.old (V : Ps w0 wr B fr tk un) {j : Nat} (hj : j < w0.heap.size) (hne : j ≠ B) : wr.heap[j]? = w0.heap[j]? := by
  obtain ⟨f, V⟩ := V
  exact V.k.block j hj hne
theorem Ps.size (V : Ps w0 wr B fr tk un) : w0.heap.size ≤ wr.heap.size := by obtain ⟨f, V⟩ := V; exact V.k.size
theorem Ps.below (V : Ps w0 wr B fr tk un) (A : As w w0 B g o l sl) : Below w.heap.size w wr := by
  obtain ⟨f, V⟩ := V
  exact Kp.below (Nat.le_refl _) A.b V.k (fun j hj => by have := A.hB; omega)
theorem As.gl (A : As w w0 B g o l sl) : g < w0.heap.size := lt_of_block A.s
theorem Ps.slots (V : Ps w0 wr B fr tk un) (A : As w w0 B g o l sl) : wr.heap[g]? = some (.cells (ints sl).toArray 3 (0, 0)) := by rw [V.old A.gl A.gB]; exact A.s
theorem Ps.order (V : Ps w0 wr B fr tk un) (A : As w w0 B g o l sl) {j a : Nat} (h : (ordP l)[j]? = some a) : wr.cell? ⟨o, j, none⟩ = some (.int .i64 a) := by
  rw [← A.r j a h]
  exact World.cell?_of_block (a := ⟨o, j, none⟩) (V.old A.ol A.oB)
theorem Ps.init (hB : w.heap[B]? = some (.cells #[.slice none 0 0, .slice none 0 0, .slice none 0 0] 46 (0, 0))) : Ps w w B [] [] [] := by
  refine ⟨fun _ => .slice none 0 0, hB, fun t ht => ?_, fun s t _ _ _ g hg => by simp [Value.ownBlock] at hg, Kp.refl _ _⟩
  have e : L3 [] [] [] t = [] := by
    match t, ht with
    | 0, _ => rfl | 1, _ => rfl | 2, _ => rfl
  rw [e]
  exact World.ownsRow_nil _ _ _ _
theorem run_take {k a : Nat} (h : (ordP l)[k]? = some a) : runP l ((ordP l).take (k + 1)) = (gv (runP l ((ordP l).take k)).1 (lst (runP l ((ordP l).take k)).1 (kf l a)) (kt l a), (runP l ((ordP l).take k)).2.set a (lst (runP l ((ordP l).take k)).1 (kf l a) : Nat)) := by
  rw [take_snoc h, runP_snoc]; rfl
theorem ord_le {i k a b : Nat} (h1 : (ordP l)[i]? = some a) (h2 : (ordP l)[k]? = some b) (h : i ≤ k) : kf l a ≤ kf l b := by
  by_cases e : i = k
  · subst e; rw [h1] at h2; injection h2 with h2; rw [h2]; exact Int.le_refl _
  · obtain ⟨x1, e1⟩ := List.getElem?_eq_some_iff.mp h1
    obtain ⟨x2, e2⟩ := List.getElem?_eq_some_iff.mp h2
    have hp := List.pairwise_iff_getElem.mp (ordP_sorted l) i k x1 x2 (by omega)
    rw [e1, e2] at hp
    unfold Le2 at hp
    omega
theorem IntsAt.nil (w : World) : IntsAt w (.slice none 0 0) [] := ⟨none, 0, rfl, by simp, fun j x hx => by simp at hx⟩
set_option maxRecDepth 20000 in
set_option maxHeartbeats 4000000 in
theorem assign_any {v : Value} (R : RgsAt w v l) : Calls Try.prog 7 #[v] w fun e w' => (∃ vs, e = .returned (.tuple #[vs, .int .i64 (cntP l : Nat), .int .i64 (fltP l)]) ∧ Hid (IntsAt w' vs (sltP l))) ∧ Below w.heap.size w w' := by
  have hfa := fault_any R
  have HR := hide R
  rcases fltP_cases l with ⟨hf, hl, hs⟩ | hf | hf
  · have hc : cntP l = (asgP l).1.length := if_pos hf
    have hsl : Hid (sltP l = (asgP l).2) := hide (if_pos hf)
    have HS := hide (snd_of hs)
    obtain ⟨ao, cap, rfl⟩ := R.slice
    rw [hf] at hfa
    rw [hf, hc]
    obtain ⟨n, hn⟩ : ∃ n, l.length = n := ⟨_, rfl⟩
    have HN := hide hn
    rw [hn] at hl HR hfa ⊢
    obtain ⟨cn, hcn⟩ : ∃ cn, (asgP l).1.length = cn := ⟨_, rfl⟩
    have HC := hide hcn
    rw [hcn]
    clear R hn hc hs hf hcn
    have hmk := fun W : World => run_ints W n (by omega)
    have hn2 : (n : Int) ≤ 20000 := by omega
    go_enter Try.func7, Try.ntmps7
    go_wp2_with (first
      | (go_at_call 14; refine hfa.mono ?_; rintro e w1 ⟨rfl, hb1⟩; have HB1 := hide hb1; clear hb1 hfa)
      | (go_at_call 15
         have HB2 := hide (((HB1.out.alloc HB1.out.size (.cells #[.slice none 0 0, .slice none 0 0, .slice none 0 0] 46)).alloc (by have := HB1.out.size; simp; omega) (.cells (reps n (.int .i64 0)) 3)))
         have hbf := byFrom_any (HR.out.below HB2.out) (by rw [HN.out]; exact hl)
         rw [HN.out] at hbf
         refine hbf.mono ?_
         rintro e w2 ⟨o, rfl, H2⟩
         clear hbf hmk))
    go_loopw [8, 20] (fun _ i wr => ∃ k : Nat, k ≤ n ∧ i = .int .i64 k ∧ Hid (∃ w0 fr tk t, As w w0 w1.heap.size (w1.heap.size + 1) o l (runP l ((ordP l).take k)).2 ∧ Ps w0 wr w1.heap.size fr tk (runP l ((ordP l).take k)).1 ∧ Iv fr tk (runP l ((ordP l).take k)).1 t ∧ ∀ i a, k ≤ i → (ordP l)[i]? = some a → t ≤ kf l a)) (fun _ i _ => n - (intOf i).toNat)
    case atStart =>
      obtain ⟨h1, h2, h3, h4⟩ := H2.out
      have hz : ((w1.alloc (.cells #[.slice none 0 0, .slice none 0 0, .slice none 0 0] 46)).alloc (.cells (reps n (.int .i64 0)) 3)).heap.size = w1.heap.size + 2 := by simp
      rw [hz] at h1 h2
      refine ⟨0, Nat.zero_le _, rfl, w2, [], [], 0, ⟨HB2.out.trans (h1.mono (by have := HB2.out.size; omega)), HB1.out.size, by have := HB1.out.size; omega, by omega, by omega, by omega, h3, ?_, h4⟩, ?_, Iv.nil 0, fun i a _ ha => ?_⟩
      · rw [h1.block _ (by omega)]
        have e : (runP l ((ordP l).take 0)).2 = List.replicate n 0 := by rw [List.take_zero, ← HN.out]; rfl
        rw [e]
        have e2 : (ints (List.replicate n 0)).toArray = reps n (.int .i64 0) := by unfold ints reps; rw [List.map_replicate]
        rw [e2]
        exact heap_new _ _ (by simp)
      · refine Ps.init ?_
        rw [h1.block _ (by omega), heap_under _ _ (by simp)]
        exact heap_new _ _ rfl
      · have ha2 := ordP_lt (List.mem_of_getElem? ha)
        obtain ⟨p, hp⟩ : ∃ p, l[a]? = some p := ⟨l[a], by simp⟩
        rw [kf_get hp]
        exact (HS.out p (List.mem_of_getElem? hp)).1
    case round =>
      obtain ⟨k, hk, rfl, HJ⟩ := hrel
      by_cases hlt : k < n
      · obtain ⟨w0, fr, tk, t, A, V, I, hle⟩ := HJ.out
        obtain ⟨a, ha⟩ : ∃ a, (ordP l)[k]? = some a := ⟨(ordP l)[k]'(by rw [ordP_len, HN.out]; exact hlt), by simp⟩
        have hal := ordP_lt (List.mem_of_getElem? ha)
        obtain ⟨p, hp⟩ : ∃ p, l[a]? = some p := ⟨l[a], by simp⟩
        have hun : (runP l ((ordP l).take k)).1.length ≤ 20000 := Nat.le_trans (runP_un _ _) (by rw [List.length_take]; omega)
        have hr := release_any V I (by omega) (hle k a (Nat.le_refl _) ha)
        rw [kf_get hp] at hr
        have hRW := HR.out.below (V.below A)
        obtain ⟨gl, ol, rfl, hgl, c0, c1⟩ := hRW.cell hp
        have co := V.order A ha
        have bj : (k : Int) < (n : Int) := by omega
        have ba : (a : Int) < (n : Int) := by rw [← HN.out]; omega
        have HA := hide A
        have HP := hide (And.intro hp ha)
        have HU := hide hun
        clear A V I hle hRW hp hun hal HJ
        go_wp2_with (first
          | (go_at_call 16; refine hr.mono ?_; rintro e w3 ⟨⟨v3, rfl⟩, fr3, tk3, V3, I3, hg3⟩
             have ht := take_any (en := p.en) V3 I3 hg3 (by have := HU.out; omega)
             obtain ⟨_, _, e3, hgl3, d0, d1⟩ := (HR.out.below (V3.below HA.out)).cell HP.out.1
             cases e3
             clear hr V3 I3 hg3)
          | (go_at_call 17; refine ht.mono ?_; rintro e w4 ⟨rfl, fr4, tk4, V4, I4⟩
             have HV4 := hide (And.intro V4 I4)
             have cs := V4.slots HA.out
             obtain ⟨xs, hxs⟩ : ∃ xs, (runP l ((ordP l).take k)).2[a]? = some xs := ⟨(runP l ((ordP l).take k)).2[a]'(by rw [runP_len]; exact get_lt HP.out.1), by simp⟩
             have cc := cell_of cs (by rw [List.getElem?_toArray]; exact ints_get hxs)
             have cz := fz_of a cs
             clear ht V4 I4 cs hxs))
        go_roundw
        case rel =>
          refine ⟨k + 1, by omega, by go_num, ?_⟩
          rw [run_take HP.out.2, kf_get HP.out.1, kt_get HP.out.1]
          refine ⟨_, fr4, tk4, p.fr, HA.out.step a _, HV4.out.1.slot HA.out.gl HA.out.gB a _, HV4.out.2, fun i b hi hb => ?_⟩
          rw [← kf_get HP.out.1]
          exact ord_le HP.out.2 hb (by omega)
        case measure => simp [intOf]; omega
      · obtain rfl : k = n := by omega
        have ht : (ordP l).take k = ordP l := List.take_of_length_le (by rw [ordP_len, HN.out]; exact Nat.le_refl _)
        rw [ht] at HJ
        obtain ⟨w0, fr, tk, t, A, V, I, hle⟩ := HJ.out
        have hcn := count_any V
        rw [show (runP l (ordP l)).1.length = cn from HC.out] at hcn
        have HF := hide (And.intro (V.slots A) (V.below A))
        clear A V I hle HJ ht
        go_wp2_with (go_at_call 18; refine hcn.mono ?_; rintro e w2 ⟨rfl, rfl⟩)
        go_returns
        refine ⟨⟨.slice (some ⟨w1.heap.size + 1, 0, none⟩) k k, rfl, ?_⟩, HF.out.2⟩
        rw [hsl.out]
        have hlen : (asgP l).2.length = k := by rw [← HN.out]; exact runP_len _ _
        refine ⟨some ⟨w1.heap.size + 1, 0, none⟩, k, by rw [hlen], by omega, fun j x hx => ⟨w1.heap.size + 1, 0, rfl, lt_of_block HF.out.1, ?_⟩⟩
        rw [Nat.zero_add]
        exact cell_of HF.out.1 (by rw [List.getElem?_toArray]; exact ints_get hx)
  · have hc : cntP l = 0 := if_neg (by rw [hf]; decide)
    have hsl : Hid (sltP l = []) := hide (if_neg (by rw [hf]; decide))
    obtain ⟨ao, cap, rfl⟩ := R.slice
    rw [hf] at hfa
    rw [hf, hc]
    generalize l.length = n at *
    clear R hc hf
    go_enter Try.func7, Try.ntmps7
    go_wp2_with (go_at_call 14; refine hfa.mono ?_; rintro e w1 ⟨rfl, hb1⟩; clear hfa)
    go_returns
    exact ⟨⟨_, rfl, by rw [hsl.out]; exact IntsAt.nil _⟩, hb1⟩
  · have hc : cntP l = 0 := if_neg (by rw [hf]; decide)
    have hsl : Hid (sltP l = []) := hide (if_neg (by rw [hf]; decide))
    obtain ⟨ao, cap, rfl⟩ := R.slice
    rw [hf] at hfa
    rw [hf, hc]
    generalize l.length = n at *
    clear R hc hf
    go_enter Try.func7, Try.ntmps7
    go_wp2_with (go_at_call 14; refine hfa.mono ?_; rintro e w1 ⟨rfl, hb1⟩; clear hfa)
    go_returns
    exact ⟨⟨_, rfl, by rw [hsl.out]; exact IntsAt.nil _⟩, hb1⟩
end
end Go.Proofs.Ytmkeahfdbmfajaa
