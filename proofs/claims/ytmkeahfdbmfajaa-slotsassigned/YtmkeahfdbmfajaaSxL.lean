/- byFrom: the ranges' numbers in the order in which they are taken. -/
import Derived.Test.YtmkeahfdbmfajaaSxK
import Derived.Shelf.SlSortCmp.NoneTotal
import Derived.Shelf.Lay
import Derived.Ground.SlsfProg
namespace Go.Proofs
open Go.Shelf
shelf_lay_g SlLaysF.n6 Slsf 6 at Try 23 as Try.sortL
end Go.Proofs
namespace Go.Proofs.Ytmkeahfdbmfajaa
open Go.RowKit Go.Shelf Go.Lib Go.Sort
theorem ltR (l : List Rg) (x y : Fin l.length) : ltOf (cfR l) x y = decide (kf l x < kf l y ∨ (kf l x = kf l y ∧ x.val < y.val)) := by
  have e : (cfR l x y < 0) ↔ (kf l x < kf l y ∨ (kf l x = kf l y ∧ x.val < y.val)) := by
    unfold cfR orI cmpI
    generalize kf l x = a
    generalize kf l y = b
    by_cases h1 : a < b
    · simp [h1]
    · by_cases h2 : b < a
      · have : a ≠ b := by omega
        simp [h1, h2, this]
      · have : a = b := by omega
        subst this
        by_cases h3 : x.val < y.val
        · simp [h3]
        · by_cases h4 : y.val < x.val
          · simp [h3, h4]
          · simp [h3, h4]
  unfold ltOf
  rw [decide_eq_decide]
  exact e
theorem swoR (l : List Rg) : SWO (ltOf (cfR l)) where
  irrefl x := by rw [ltR]; simp
  trans x y z h1 h2 := by rw [ltR] at *; simp only [decide_eq_true_eq] at *; omega
  ntrans x y z h1 h2 := by rw [ltR] at *; simp only [decide_eq_false_iff_not] at *; omega
theorem totR (l : List Rg) (x y : Fin l.length) (h1 : ltOf (cfR l) x y = false) (h2 : ltOf (cfR l) y x = false) : x = y := by
  rw [ltR] at *
  simp only [decide_eq_false_iff_not] at *
  exact Fin.ext (by omega)
theorem geR (l : List Rg) : (fun x y : Fin l.length => !ltOf (cfR l) y x) = leF l := by
  funext x y
  rw [ltR]
  unfold leF
  by_cases h : kf l y < kf l x ∨ (kf l y = kf l x ∧ y.val < x.val)
  · have h1 : ¬ kf l x < kf l y := by omega
    have h2 : ¬ (kf l x = kf l y ∧ x.val ≤ y.val) := by omega
    rw [decide_eq_true h, decide_eq_false h1, Bool.false_or, ← Bool.decide_and, decide_eq_false h2]
    rfl
  · rw [decide_eq_false h, ← Bool.decide_and, ← Bool.decide_or]
    have : kf l x < kf l y ∨ (kf l x = kf l y ∧ x.val ≤ y.val) := by omega
    rw [decide_eq_true this]
    rfl
theorem sw_keep {α : Type} [Inhabited α] (enc : α → Value) (w : World) (blk off m : Nat) (dk : Array α) (os : Array Obj) {j : Nat} (hj : j < w.heap.size) (hne : j ≠ blk) : (sortWorld enc w blk off m dk os).heap[j]? = w.heap[j]? := by
  unfold sortWorld grow
  show ((putRow enc (Sort.ahead w m) blk off dk).heap ++ os)[j]? = _
  have hs : (putRow enc (Sort.ahead w m) blk off dk).heap.size = w.heap.size := size_putRow enc (Sort.ahead w m) blk off dk
  rw [Array.getElem?_append, if_pos (by rw [hs]; exact hj)]
  show (w.heap.modify blk _)[j]? = _
  rw [Array.getElem?_modify]
  simp [Ne.symm hne]
theorem sw_size {α : Type} [Inhabited α] (enc : α → Value) (w : World) (blk off m : Nat) (dk : Array α) (os : Array Obj) : w.heap.size ≤ (sortWorld enc w blk off m dk os).heap.size := by
  unfold sortWorld
  rw [size_grow]
  have hs : (putRow enc (Sort.ahead w m) blk off dk).heap.size = w.heap.size := size_putRow enc (Sort.ahead w m) blk off dk
  omega
theorem sw_below {α : Type} [Inhabited α] (enc : α → Value) (w : World) (blk off m : Nat) (dk : Array α) (os : Array Obj) {S : Nat} (hb : S ≤ blk) (hS : S ≤ w.heap.size) : Below S w (sortWorld enc w blk off m dk os) :=
  ⟨rfl, rfl, rfl, sw_size enc w blk off m dk os, fun k hk => sw_keep enc w blk off m dk os (by omega) (by omega)⟩
/-- The same n times. -/
def reps (n : Nat) (z : Value) : Array Value := (List.replicate n z).toArray
theorem made_one {z : Value} (n : Nat) : madeCells #[z] n = reps n z := by
  unfold reps
  apply Array.ext
  · simp [madeCells]
  · intro i h1 h2
    simp [madeCells, Nat.mod_one]
theorem run_ints (w : World) (n : Nat) (hn : n ≤ 100000) : (Instr.makeSlice 23 (.int .i64 n) (.int .i64 n)).run Try.prog w = .ok (.slice (some ⟨w.heap.size, 0, none⟩) n n) (w.alloc (.cells (reps n (.int .i64 0)) 3)) := by
  obtain ⟨i0, hi, hz0, hz1, hz2⟩ := info_parts Try.info3
  have hmk := run_make (P := Try.prog) w 23 3 i0 (.int .i64 0) Try.underlying23 hi hz0 .i64 .i64 n n (by omega) (Int.le_refl _) (by rw [hz2]; omega) (by omega)
  rw [hz1] at hmk
  simp only [Int.toNat_natCast, Nat.mul_one] at hmk
  rw [show (Value.int .i64 0).cells = #[Value.int .i64 0] from rfl, made_one] at hmk
  exact hmk
/-- What is filled with its own numbers, as far as j. -/
def up (n j : Nat) : List Int := (List.range n).map fun i => if i < j then (i : Int) else 0
theorem up_len (n j : Nat) : (up n j).length = n := by simp [up]
theorem up_zero (n : Nat) : (ints (up n 0)).toArray = reps n (.int .i64 0) := by
  unfold reps ints up
  congr 1
  rw [List.map_map]
  apply List.ext_getElem
  · simp
  · intro i h1 h2; simp
theorem up_set {n j : Nat} (_ : j < n) : (up n j).set j (j : Int) = up n (j + 1) := by
  apply List.ext_getElem
  · simp [up]
  · intro i h1 h2
    rw [List.getElem_set]
    simp only [up, List.getElem_map, List.getElem_range]
    by_cases e : j = i
    · subst e; simp
    · rw [if_neg e]
      by_cases e2 : i < j
      · rw [if_pos e2, if_pos (by omega)]
      · rw [if_neg e2, if_neg (by omega)]
theorem up_get {n j i : Nat} (h : i < n) : (up n j)[i]? = some (if i < j then (i : Int) else 0) := by simp [up, h]
theorem up_full (n : Nat) : up n n = zs (List.range n) := by
  unfold up zs
  refine List.map_congr_left fun i hi => ?_
  rw [if_pos (List.mem_range.mp hi)]
section
variable {w : World}
set_option maxHeartbeats 2000000 in
theorem sort_any {wr : World} {v : Value} {l : List Rg} {b g : Nat} (R : RgsAt w v l) (hB : Below w.heap.size w wr) (hbox : wr.heap[b]? = some (.cells #[v] 22 (0, 0))) (hrow : wr.heap[g]? = some (.cells (ints (zs (List.range l.length))).toArray 3 (0, 0))) (hg : w.heap.size ≤ g) (hbg : b ≠ g) (hl : l.length ≤ 20000) : Calls Try.prog 23 #[.slice (some ⟨g, 0, none⟩) l.length l.length, .func (.func 24) #[] #[.pointer (some ⟨b, 0, none⟩)]] wr fun e w' => e = .returned (.tuple #[]) ∧ Hid (Below w.heap.size w w' ∧ w.heap.size ≤ g ∧ g < w'.heap.size ∧ ∀ (j a : Nat), (ordP l)[j]? = some a → w'.cell? ⟨g, j, none⟩ = some (.int .i64 a)) := by
  have hgl := lt_of_block hrow
  have hbl := lt_of_block hbox
  by_cases h0 : l.length = 0
  · have hS := AnyF.slices_SortFunc_none (P := Try.prog) (ρ := Try.sortL_ren) { Try.sortL with } (some ⟨g, 0, none⟩) l.length (.func (.func 24) #[] #[.pointer (some ⟨b, 0, none⟩)]) wr
    change Calls Try.prog 23 _ _ _ at hS
    rw [h0] at hS ⊢
    refine hS.mono ?_
    rintro e w' ⟨rfl, rfl⟩
    refine ⟨rfl, hB, hg, hgl, fun j a h => ?_⟩
    have := get_lt h
    rw [ordP_len] at this
    omega
  · haveI : Inhabited (Fin l.length) := ⟨⟨0, by omega⟩⟩
    have eg : ∀ args w, (callFunc 24 args).run Try.prog w = .ok (.enter 24 args) w := enters_of Try.func24 (by kernel_rfl) rfl
    obtain ⟨enc, henc⟩ : ∃ enc : Fin l.length → Value, enc = fun x => .int .i64 (x.val : Int) := ⟨_, rfl⟩
    obtain ⟨d, hd⟩ : ∃ d : Array (Fin l.length), d = (List.finRange l.length).toArray := ⟨_, rfl⟩
    have hds : d.size = l.length := by rw [hd]; simp
    have hH : Holds enc wr g 0 d := fun j hj => by
      rw [Nat.zero_add]
      have e : (ints (zs (List.range l.length)))[j]? = some (enc d[j]!) := by
        have hj' : j < l.length := by omega
        rw [getElem!_pos d j hj]
        subst hd henc
        simp [ints, zs, hj']
      exact ⟨cell_of hrow (by rw [List.getElem?_toArray]; exact e), fz_of _ hrow⟩
    have hcmp : CmpLays1 Try.prog 24 #[.pointer (some ⟨b, 0, none⟩)] enc (cfR l) g 0 l.length wr := fun m os dk hs x y => by
      have hb2 : Below w.heap.size w (sortWorld enc wr g 0 m dk os) := hB.trans (sw_below enc wr g 0 m dk os hg hB.size)
      have hbx : (sortWorld enc wr g 0 m dk os).heap[b]? = some (.cells #[v] 22 (0, 0)) := by rw [sw_keep enc wr g 0 m dk os hbl hbg]; exact hbox
      have h := clos_any (R.below hb2) (cell_of hbx rfl) (lt_of_block hbx) x y
      subst henc
      refine h.mono ?_
      rintro e w' ⟨rfl, q, o, rfl⟩
      exact ⟨rfl, q, #[o], by rw [alloc_eq_grow]⟩
    have hS := Any.slices_SortFunc_total Try.sortL enc (fun x => by subst henc; rfl) (cfR l) (swoR l) 24 #[.pointer (some ⟨b, 0, none⟩)] g 0 l.length d wr eg (by rw [hds]; exact hcmp) hH hgl (by omega) (totR l)
    change Calls Try.prog 23 _ _ _ at hS
    rw [geR, hds] at hS
    refine hS.mono ?_
    rintro e w' ⟨rfl, q, os, rfl⟩
    refine ⟨rfl, hB.trans (sw_below enc wr g 0 q _ os hg hB.size), hg, Nat.lt_of_lt_of_le hgl (sw_size enc wr g 0 q _ os), fun j a h => ?_⟩
    obtain ⟨arr, ha⟩ : ∃ arr : Array (Fin l.length), arr = (d.toList.mergeSort (leF l)).toArray := ⟨_, rfl⟩
    rw [← ha]
    have has : arr.size = d.size := by rw [ha]; simp
    have hP : Holds enc (putRow enc (Sort.ahead wr q) g 0 arr) g 0 arr := holds_putRow enc (Sort.ahead wr q) g 0 d arr hH has
    have hjl := get_lt h
    rw [ordP_len] at hjl
    have hc := (hP j (by omega)).1
    rw [Nat.zero_add] at hc
    have e : enc arr[j]! = .int .i64 a := by
      rw [getElem!_pos arr j (by omega)]
      subst ha hd henc
      unfold ordP at h
      simp only [List.getElem?_map, Option.map_eq_some_iff] at h
      obtain ⟨x, hx, rfl⟩ := h
      obtain ⟨hx1, hx2⟩ := List.getElem?_eq_some_iff.mp hx
      simp only [List.getElem_toArray]
      rw [hx2]
    rw [e] at hc
    unfold sortWorld
    rw [cell?_grow _ os _ (World.block_lt_of_cell? _ _ hc)]
    exact hc
set_option maxRecDepth 20000 in
set_option maxHeartbeats 2000000 in
theorem byFrom_any {v : Value} {l : List Rg} (R : RgsAt w v l) (hl : l.length ≤ 20000) : Calls Try.prog 15 #[v] w fun e w' => ∃ g, e = .returned (.slice (some ⟨g, 0, none⟩) l.length l.length) ∧ Hid (Below w.heap.size w w' ∧ w.heap.size ≤ g ∧ g < w'.heap.size ∧ ∀ (j a : Nat), (ordP l)[j]? = some a → w'.cell? ⟨g, j, none⟩ = some (.int .i64 a)) := by
  have HR := hide R
  obtain ⟨ao, cap, rfl⟩ := R.slice
  obtain ⟨n, hn⟩ : ∃ n, l.length = n := ⟨_, rfl⟩
  have HN := hide hn
  rw [hn] at hl HR ⊢
  clear R hn
  have hmk := fun W : World => run_ints W n (by omega)
  have hn2 : (n : Int) ≤ 20000 := by omega
  go_enter Try.func15, Try.ntmps15
  go_wp2
  go_loopw [4, 10] (fun _ i wr => ∃ j : Nat, j ≤ n ∧ i = .int .i64 j ∧ Hid (Below w.heap.size w wr ∧ wr.heap[w.heap.size]? = some (.cells #[.slice ao n cap] 22 (0, 0)) ∧ wr.heap[w.heap.size + 1]? = some (.cells (ints (up n j)).toArray 3 (0, 0)))) (fun _ i _ => n - (intOf i).toNat)
  case atStart =>
    refine ⟨0, Nat.zero_le _, rfl, ?_⟩
    have hb : Below w.heap.size w ((w.alloc (.cells #[.slice ao n cap] 22)).alloc (.cells (reps n (.int .i64 0)) 3)) := ((Below.refl _ _).alloc (Nat.le_refl _) _).alloc (by simp) _
    refine ⟨hb, ?_, ?_⟩
    · rw [heap_under _ _ (by simp)]; exact heap_new _ _ rfl
    · rw [up_zero]; exact heap_new _ _ (by simp)
  case round =>
    obtain ⟨j, hj, rfl, HJ⟩ := hrel
    by_cases hlt : j < n
    · have bj : (j : Int) < (n : Int) := by omega
      have hget := ints_get (up_get (n := n) (j := j) hlt)
      have cg := cell_of HJ.out.2.2 (by rw [List.getElem?_toArray]; exact hget)
      have zg := fz_of j HJ.out.2.2
      clear hget
      go_wp2
      go_roundw
      case rel =>
        refine ⟨j + 1, by omega, by go_num, ?_⟩
        obtain ⟨h1, h2, h3⟩ := HJ.out
        refine ⟨Kp.below (Nat.le_refl _) h1 (Kp.setCell _ _ _) (fun b hb => by omega), ?_, ?_⟩
        · rw [Below.heap_setCell _ _ _ _ (by simp)]; exact h2
        · rw [heap_setCell_same _ _ _ _ h3, ← up_set hlt, ints_set, List.setIfInBounds_toArray]
      case measure => simp [intOf]; omega
    · obtain rfl : j = n := by omega
      obtain ⟨h1, h2, h3⟩ := HJ.out
      have hS := sort_any (b := w.heap.size) (g := w.heap.size + 1) HR.out h1 h2 (by rw [HN.out, ← up_full]; exact h3) (by omega) (by omega) (by rw [HN.out]; exact hl)
      rw [HN.out] at hS
      have HS := hide hS
      clear h1 h2 h3 hS hmk
      go_wp2_with (go_at_call 23; refine HS.out.mono ?_; rintro e w2 ⟨rfl, H2⟩)
      go_ret
      exact ⟨_, rfl, H2⟩
end
end Go.Proofs.Ytmkeahfdbmfajaa
