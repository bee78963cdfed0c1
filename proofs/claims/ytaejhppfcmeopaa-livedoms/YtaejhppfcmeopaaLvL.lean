/- needs: what is needed ahead of each block, and behind it. -/
import Derived.Test.YtaejhppfcmeopaaLvK
namespace Go.Proofs.Ytaejhppfcmeopaa
open Go.RowKit
theorem info_ints : (Try.prog.info? 34).map (fun i => (i.zero, i.size, i.bytes)) = some (some (.slice none 0 0), 1, 24) := by kernel_rfl
/-- The same n times. -/
def reps (n : Nat) (z : Value) : Array Value := (List.replicate n z).toArray
theorem reps_size (n : Nat) (z : Value) : (reps n z).size = n := by simp [reps]
theorem reps_get {n i : Nat} {z : Value} (h : i < n) : (reps n z)[i]? = some z := by unfold reps; rw [List.getElem?_toArray, List.getElem?_replicate, if_pos h]
theorem made_one {z : Value} (n : Nat) : madeCells #[z] n = reps n z := by
  unfold reps
  apply Array.ext
  · simp [madeCells]
  · intro i h1 h2
    simp [madeCells, Nat.mod_one]
theorem run_lists (w : World) (n : Nat) (hn : n ≤ 10000) : (Instr.makeSlice 23 (.int .i64 n) (.int .i64 n)).run Try.prog w = .ok (.slice (some ⟨w.heap.size, 0, none⟩) n n) (w.alloc (.cells (reps n (.slice none 0 0)) 34)) := by
  obtain ⟨i0, hi, hz0, hz1, hz2⟩ := info_parts info_ints
  have hmk := run_make (P := Try.prog) w 23 34 i0 (.slice none 0 0) Try.underlying23 hi hz0 .i64 .i64 n n (by omega) (Int.le_refl _) (by rw [hz2]; omega) (by omega)
  rw [hz1] at hmk
  simp only [Int.toNat_natCast, Nat.mul_one] at hmk
  rw [show (Value.slice none 0 0).cells = #[Value.slice none 0 0] from rfl, made_one] at hmk
  exact hmk
theorem VarA.cells {w : World} {gv K : Nat} {bs : List Blk} (V : VarA w gv K bs) {v : Nat} (hv : v < K) : w.cell? ⟨gv, v * 16, none⟩ = some (.int .u64 (wd (usm bs v) 0)) ∧ w.cell? ⟨gv, v * 16 + 1, none⟩ = some (.int .u64 (wd (usm bs v) 1)) ∧ w.cell? ⟨gv, v * 16 + 2, none⟩ = some (.int .u64 (wd (usm bs v) 2)) ∧ w.cell? ⟨gv, v * 16 + 3, none⟩ = some (.int .u64 (wd (usm bs v) 3)) ∧ w.cell? ⟨gv, v * 16 + 4, none⟩ = some (.int .u64 (wd (usm bs v) 4)) ∧ w.cell? ⟨gv, v * 16 + 5, none⟩ = some (.int .u64 (wd (usm bs v) 5)) ∧ w.cell? ⟨gv, v * 16 + 6, none⟩ = some (.int .u64 (wd (usm bs v) 6)) ∧ w.cell? ⟨gv, v * 16 + 7, none⟩ = some (.int .u64 (wd (usm bs v) 7)) ∧ w.cell? ⟨gv, v * 16 + 8, none⟩ = some (.int .u64 (wd (dfm bs v) 0)) ∧ w.cell? ⟨gv, v * 16 + 9, none⟩ = some (.int .u64 (wd (dfm bs v) 1)) ∧ w.cell? ⟨gv, v * 16 + 10, none⟩ = some (.int .u64 (wd (dfm bs v) 2)) ∧ w.cell? ⟨gv, v * 16 + 11, none⟩ = some (.int .u64 (wd (dfm bs v) 3)) ∧ w.cell? ⟨gv, v * 16 + 12, none⟩ = some (.int .u64 (wd (dfm bs v) 4)) ∧ w.cell? ⟨gv, v * 16 + 13, none⟩ = some (.int .u64 (wd (dfm bs v) 5)) ∧ w.cell? ⟨gv, v * 16 + 14, none⟩ = some (.int .u64 (wd (dfm bs v) 6)) ∧ w.cell? ⟨gv, v * 16 + 15, none⟩ = some (.int .u64 (wd (dfm bs v) 7)) := by
  have h1 := V.us v hv
  have h2 := V.ds v hv
  exact ⟨h1 0 (by decide), h1 1 (by decide), h1 2 (by decide), h1 3 (by decide), h1 4 (by decide), h1 5 (by decide), h1 6 (by decide), h1 7 (by decide), h2 0 (by decide), h2 1 (by decide), h2 2 (by decide), h2 3 (by decide), h2 4 (by decide), h2 5 (by decide), h2 6 (by decide), h2 7 (by decide)⟩
theorem VarA.kp {w w' : World} {gv K : Nat} {bs : List Blk} (V : VarA w gv K bs) (h : Nat.le w.heap.size w'.heap.size) (hk : w'.heap[gv]? = w.heap[gv]?) : VarA w' gv K bs :=
  ⟨Nat.lt_of_lt_of_le V.gl h, fun v hv k hk8 => by rw [World.cell?_of_block (a := ⟨gv, v * 16 + k, none⟩) hk]; exact V.us v hv k hk8, fun v hv k hk8 => by rw [World.cell?_of_block (a := ⟨gv, v * 16 + 8 + k, none⟩) hk]; exact V.ds v hv k hk8⟩
theorem GrA.kp2 {w w' : World} {gb n : Nat} {P : Nat → Nat} (G : GrA w gb n P) (h : Nat.le w.heap.size w'.heap.size) (hk : w'.heap[gb]? = w.heap[gb]?) : GrA w' gb n P :=
  ⟨Nat.lt_of_lt_of_le G.gl h, fun t ht k hk8 => by rw [World.cell?_of_block (a := ⟨gb, t * 8 + k, none⟩) hk]; exact G.gr t ht k hk8⟩
def zs (l : List Nat) : List Int := l.map fun (y : Nat) => (y : Int)
/-- The lists ahead of the blocks, then those behind them, of the variables below v. -/
def LV (bs : List Blk) (n v t : Nat) : List Int := if t < n then zs (inL bs v t) else zs (outL bs v (t - n))
def L1 (bs : List Blk) (n v m x t : Nat) : List Int := LV bs n v t ++ bif decide (t < n) && (decide (t < x) && m.testBit t) then [(v : Int)] else []
def L2 (bs : List Blk) (n v m m' x t : Nat) : List Int := L1 bs n v m 512 t ++ bif decide (n ≤ t) && (decide (t - n < x) && m'.testBit (t - n)) then [(v : Int)] else []
theorem zs_len (l : List Nat) : (zs l).length = l.length := by simp [zs]
theorem LV_len (bs : List Blk) (n v t : Nat) : (LV bs n v t).length ≤ v := by
  unfold LV
  split
  · rw [zs_len]; exact inL_len bs v t
  · rw [zs_len]; exact outL_len bs v _
theorem one_len (c : Bool) (x : Int) : (bif c then [x] else []).length ≤ 1 := by cases c <;> simp
theorem L1_len (bs : List Blk) (n v m x t : Nat) : (L1 bs n v m x t).length ≤ v + 1 := by
  unfold L1
  rw [List.length_append]
  have := LV_len bs n v t
  have := one_len (decide (t < n) && (decide (t < x) && m.testBit t)) v
  omega
theorem L2_len (bs : List Blk) (n v m m' x t : Nat) : (L2 bs n v m m' x t).length ≤ v + 2 := by
  unfold L2
  rw [List.length_append]
  have := L1_len bs n v m 512 t
  have := one_len (decide (n ≤ t) && (decide (t - n < x) && m'.testBit (t - n))) v
  omega
theorem lt_succ_other {t x : Nat} (h : t ≠ x) : decide (t < x + 1) = decide (t < x) := decide_eq_decide.mpr (by omega)
theorem L1_zero (bs : List Blk) (n v m t : Nat) : L1 bs n v m 0 t = LV bs n v t := by simp [L1]
theorem L1_skip {bs : List Blk} {n v m x : Nat} (h : m.testBit x = false) (t : Nat) : L1 bs n v m (x + 1) t = L1 bs n v m x t := by
  unfold L1
  by_cases e : t = x
  · subst e; simp [h]
  · rw [lt_succ_other e]
theorem L1_step {bs : List Blk} {n v m x : Nat} (hx : x < n) (h : m.testBit x = true) (t : Nat) : L1 bs n v m (x + 1) t = upf (L1 bs n v m x) x (L1 bs n v m x x ++ [(v : Int)]) t := by
  by_cases e : t = x
  · subst e; rw [upf_same]; simp [L1, h, hx]
  · rw [upf_other _ _ e]; unfold L1; rw [lt_succ_other e]
theorem L2_zero (bs : List Blk) (n v m m' t : Nat) : L2 bs n v m m' 0 t = L1 bs n v m 512 t := by simp [L2]
theorem L2_skip {bs : List Blk} {n v m m' x : Nat} (h : m'.testBit x = false) (t : Nat) : L2 bs n v m m' (x + 1) t = L2 bs n v m m' x t := by
  unfold L2
  by_cases e : t - n = x
  · subst e; simp [h]
  · rw [lt_succ_other e]
theorem L2_step {bs : List Blk} {n v m m' x : Nat} (h : m'.testBit x = true) (t : Nat) : L2 bs n v m m' (x + 1) t = upf (L2 bs n v m m' x) (n + x) (L2 bs n v m m' x (n + x) ++ [(v : Int)]) t := by
  by_cases e : t = n + x
  · subst e; rw [upf_same]; simp [L2, h, show n + x - n = x by omega]
  · rw [upf_other _ _ e]
    unfold L2
    by_cases e2 : n ≤ t
    · rw [lt_succ_other (show t - n ≠ x by omega)]
    · simp [e2]
theorem LV_next {bs : List Blk} {n v : Nat} (hn : n ≤ 512) {t : Nat} (ht : t < n + n) : LV bs n (v + 1) t = L2 bs n v (nd bs v).1 (nd bs v).2 512 t := by
  unfold L2 L1 LV
  by_cases e : t < n
  · have h1 : ¬ n ≤ t := by omega
    have h2 : t < 512 := by omega
    rw [if_pos e, if_pos e, inL_next]
    cases (nd bs v).1.testBit t <;> simp [zs, e, h1, h2]
  · have h1 : n ≤ t := by omega
    have h2 : t - n < 512 := by omega
    rw [if_neg e, if_neg e, outL_next]
    cases (nd bs v).2.testBit (t - n) <;> simp [zs, e, h1, h2]
/-- Two lists of lists are there, empty. -/
structure NB (w wq : World) (n A1 A2 : Nat) : Prop where
  i4 : wq.heap[w.heap.size]? = some (.cells #[.slice (some ⟨A1, 0, none⟩) n n] 23 (0, 0))
  i5 : wq.heap[w.heap.size + 1]? = some (.cells #[.slice (some ⟨A2, 0, none⟩) n n] 23 (0, 0))
  a1 : wq.heap[A1]? = some (.cells (reps n (.slice none 0 0)) 34 (0, 0))
  a2 : wq.heap[A2]? = some (.cells (reps n (.slice none 0 0)) 34 (0, 0))
  ne : A1 ≠ A2
  lo : w.heap.size ≤ A1 ∧ w.heap.size ≤ A2
  bel : Below w.heap.size w wq
def lbF (n A1 A2 t : Nat) : Nat := if t < n then A1 else A2
def loF (n t : Nat) : Nat := if t < n then t else t - n
theorem NB.fm {w wq : World} {n A1 A2 : Nat} (N : NB w wq n A1 A2) {bs : List Blk} : Fm wq w.heap.size (n + n) (lbF n A1 A2) (loF n) (fun _ => .slice none 0 0) (LV bs n 0) := by
  refine ⟨fun t ht => ?_, fun s t hs ht h1 h2 => ?_, fun t _ => ?_, fun _ _ _ _ _ => .inl rfl, fun t _ => ?_, N.bel.size⟩
  · unfold lbF loF
    by_cases e : t < n
    · rw [if_pos e, if_pos e]; exact ⟨_, N.a1, reps_get e⟩
    · rw [if_neg e, if_neg e]; exact ⟨_, N.a2, reps_get (by omega)⟩
  · have hne := N.ne
    unfold lbF at h1
    unfold loF at h2
    by_cases e1 : s < n <;> by_cases e2 : t < n <;> simp only [if_pos, if_neg, e1, e2, not_false_eq_true] at h1 h2 <;> omega
  · have : LV bs n 0 t = [] := List.eq_nil_of_length_eq_zero (Nat.le_zero.mp (LV_len bs n 0 t))
    rw [this]
    exact ⟨rfl, .inl ⟨rfl, rfl⟩⟩
  · unfold lbF
    split
    · exact N.lo.1
    · exact N.lo.2
end Go.Proofs.Ytaejhppfcmeopaa
