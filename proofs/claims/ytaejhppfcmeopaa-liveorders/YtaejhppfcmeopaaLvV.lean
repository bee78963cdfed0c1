/- What the laws call: Has, small, awake. -/
import Derived.Test.YtaejhppfcmeopaaLvU
namespace Go.Proofs.Ytaejhppfcmeopaa
open Go.RowKit
def hasI (l : List Int) (x : Int) : Bool := l.any fun y => decide (y = x)
theorem hasI_iff {l : List Int} {x : Int} : hasI l x = true ↔ x ∈ l := by simp [hasI]
def sumL : List Blk → Nat
  | [] => 0
  | b :: r => b.u.length + b.d.length + b.n.length + sumL r
/-- No list of the blocks is too long to be added up. -/
def Bnd (bs : List Blk) : Prop := ∀ (i : Nat) (b : Blk), bs[i]? = some b → b.u.length + b.d.length + b.n.length ≤ 100000000000000
def smallP (bs : List Blk) : Bool := decide (bs.length ≤ 40) && decide (sumL bs ≤ 400)
theorem sumL_take {bs : List Blk} {i : Nat} {b : Blk} (h : bs[i]? = some b) : sumL (bs.take (i + 1)) = sumL (bs.take i) + (b.u.length + b.d.length + b.n.length) := by
  induction bs generalizing i with
  | nil => simp at h
  | cons a r ih =>
    cases i with
    | zero => simp at h; subst h; simp [sumL]
    | succ i =>
      have := ih (i := i) (by simpa using h)
      simp only [List.take_succ_cons, sumL, this]
      omega
theorem sumL_le {bs : List Blk} (h : Bnd bs) (hl : bs.length ≤ 512) : ∀ i, sumL (bs.take i) ≤ i * 100000000000000 ∧ sumL (bs.take i) ≤ 51200000000000000
  | 0 => by simp [sumL]
  | i + 1 => by
    obtain ⟨h1, h2⟩ := sumL_le h hl i
    rcases Nat.lt_or_ge i bs.length with hi | hi
    · obtain ⟨b, hb⟩ : ∃ b, bs[i]? = some b := ⟨bs[i], by simp [hi]⟩
      rw [sumL_take hb]
      have := h i b hb
      omega
    · rw [show bs.take (i + 1) = bs.take i by rw [List.take_of_length_le (by omega), List.take_of_length_le (by omega)]]
      omega
theorem wrap_id {x : Int} (h0 : 0 ≤ x) (h1 : x ≤ 9000000000000000000) : IntKind.i64.wrap x = x := by
  rw [IntKind.wrap_i64]
  omega
theorem wrap_sum {z : Int} {a b c : Nat} (h0 : 0 ≤ z) (h1 : z ≤ 51200000000000000) (h : a + b + c ≤ 100000000000000) : IntKind.i64.wrap (z + IntKind.i64.wrap (IntKind.i64.wrap ((a : Int) + (b : Int)) + (c : Int))) = z + ((a + b + c : Nat) : Int) := by
  rw [wrap_id (x := (a : Int) + (b : Int)) (by omega) (by omega), wrap_id (x := (a : Int) + (b : Int) + (c : Int)) (by omega) (by omega), wrap_id (by omega) (by omega)]
  omega
section
variable {w : World}
set_option maxHeartbeats 1000000 in
theorem has13_any {v : Value} {l : List Int} (x : Int) (R : IntsAt w v l) : Calls Try.prog 20 #[v, .int .i64 x] w fun e w' => e = .returned (.bool (hasI l x)) ∧ w' = w := by
  have hlen := R.len
  have HR := hide R
  obtain ⟨ao, cap, rfl⟩ := R.slice
  generalize hn : l.length = m at *
  have HN := hide hn
  have hm2 : (m : Int) ≤ 9223372036854775807 := by omega
  clear hn R
  go_enter Try.func20, Try.ntmps20
  go_wp2
  go_loopw [5] (fun i wr => ∃ j : Nat, j ≤ m ∧ i = .int .i64 j ∧ wr = w ∧ Hid (hasI (l.take j) x = false)) (fun i _ => m - (intOf i).toNat)
  case atStart => exact ⟨0, Nat.zero_le _, rfl, rfl, rfl⟩
  case round =>
    obtain ⟨j, hj, rfl, rfl, HJ⟩ := hrel
    by_cases hlt : j < m
    · obtain ⟨y, hy⟩ : ∃ y, l[j]? = some y := ⟨l[j]'(by rw [HN.out]; exact hlt), by simp⟩
      obtain ⟨g, o, rfl, hg, c0⟩ := HR.out.cell hy
      have hts := any_take_succ (q := fun y => decide (y = x)) hy
      have HTS : Hid (hasI (l.take (j + 1)) x = decide (y = x)) := hide (by unfold hasI; rw [hts]; have := HJ.out; unfold hasI at this; rw [this, Bool.false_or])
      have bj : (j : Int) < (m : Int) := by omega
      clear hy hts HJ
      by_cases hq : y = x
      · subst hq
        go_wp2
        go_ret
        have h1 := HTS.out
        rw [decide_eq_true_eq.mpr trivial] at h1
        exact ⟨ret_bool (any_of_take (q := fun z => decide (z = y)) h1).symm, rfl⟩
      · have hq1 : (y == x) = false := by simpa using hq
        go_wp2
        go_roundw
        case rel => exact ⟨j + 1, by omega, by go_num, trivial, hide (by rw [HTS.out]; simpa using hq)⟩
        case measure => simp [intOf]; omega
    · obtain rfl : j = m := by omega
      go_wp2
      go_ret
      have h1 := HJ.out
      rw [List.take_of_length_le (by rw [HN.out]; exact Nat.le_refl _)] at h1
      exact ⟨ret_bool h1.symm, rfl⟩
set_option maxHeartbeats 2000000 in
theorem small_any {v : Value} {bs : List Blk} (R : BlksAt w v bs) (hl : bs.length ≤ 512) : Calls Try.prog 12 #[v] w fun e w' => (∃ r, e = .returned (.bool r) ∧ Hid (Bnd bs → r = smallP bs)) ∧ Below w.heap.size w w' := by
  obtain ⟨ao, cap, rfl, h2⟩ := R
  have H2 := hide h2
  have HL := hide hl
  generalize hn : bs.length = n at *
  have HN := hide hn
  have hn2 : (n : Int) ≤ 512 := by omega
  clear hn h2 hl
  go_enter Try.func12, Try.ntmps12
  go_wp2
  go_loopw [3, 4] (fun s i wr => ∃ (j : Nat) (z : Int), j ≤ n ∧ i = .int .i64 j ∧ s = .int .i64 z ∧ Hid (Below w.heap.size w wr) ∧ Hid (Bnd bs → z = (sumL (bs.take j) : Int))) (fun _ i _ => n - (intOf i).toNat)
  case atStart => exact ⟨0, 0, Nat.zero_le _, rfl, rfl, Below.refl _ _, fun _ => rfl⟩
  case round =>
    obtain ⟨j, z, hj, rfl, rfl, HB, HZ⟩ := hrel
    by_cases hlt : j < n
    · obtain ⟨b, hb⟩ : ∃ b, bs[j]? = some b := ⟨bs[j]'(by rw [HN.out]; exact hlt), by simp⟩
      obtain ⟨g, o, vu, vd, vn, rfl, hg, c0, c1, c2, IU, ID, IN⟩ := H2.out j b hb
      rw [← HB.out.cell (p := ⟨g, o + j * 3, none⟩) hg] at c0
      rw [← HB.out.cell (p := ⟨g, o + j * 3 + 1, none⟩) hg] at c1
      rw [← HB.out.cell (p := ⟨g, o + j * 3 + 2, none⟩) hg] at c2
      have hg2 := Nat.lt_of_lt_of_le hg HB.out.size
      obtain ⟨au, cu, rfl⟩ := IU.slice
      obtain ⟨ad, cd, rfl⟩ := ID.slice
      obtain ⟨an, cn, rfl⟩ := IN.slice
      have bj : (j : Int) < (n : Int) := by omega
      have HX : Hid (Bnd bs → ∀ t : Int, t = IntKind.i64.wrap (z + IntKind.i64.wrap (IntKind.i64.wrap ((b.u.length : Int) + (b.d.length : Int)) + (b.n.length : Int))) → t = (sumL (bs.take (j + 1)) : Int)) := hide (fun hB t ht => by
        have h1 := HZ.out hB
        have h3 := hB j b hb
        have h4 := (sumL_le hB (by rw [HN.out]; exact HL.out) j).2
        rw [sumL_take hb, ht, wrap_sum (by omega) (by omega) h3, h1]
        exact (Int.natCast_add _ _).symm)
      clear hb IU ID IN hg
      generalize b.u.length = mu at *
      generalize b.d.length = md at *
      generalize b.n.length = mn at *
      obtain ⟨t1, ht1⟩ : ∃ t1, IntKind.i64.wrap ((mu : Int) + (md : Int)) = t1 := ⟨_, rfl⟩
      obtain ⟨t2, ht2⟩ : ∃ t2, IntKind.i64.wrap (t1 + (mn : Int)) = t2 := ⟨_, rfl⟩
      obtain ⟨t3, ht3⟩ : ∃ t3, IntKind.i64.wrap (z + t2) = t3 := ⟨_, rfl⟩
      have HT : Hid (Bnd bs → t3 = (sumL (bs.take (j + 1)) : Int)) := hide (fun hB => HX.out hB t3 (by rw [ht1, ht2, ht3]))
      clear HX
      go_wp2_with fail
      go_region
      go_wp2
      go_roundw
      case rel => exact ⟨j + 1, t3, by omega, by go_num, rfl, HB.out.drew, HT.out⟩
      case measure => simp [intOf]; omega
    · obtain rfl : j = n := by omega
      have HF : Hid (Bnd bs → (decide (j ≤ 40) && decide (z ≤ 400)) = smallP bs) := hide (fun hB => by
        have h1 := HZ.out hB
        rw [List.take_of_length_le (by rw [HN.out]; exact Nat.le_refl _)] at h1
        unfold smallP
        rw [HN.out, h1]
        congr 1
        exact decide_eq_decide.mpr (by omega))
      clear HZ
      by_cases h40 : j ≤ 40
      · have h40' : (j : Int) ≤ 40 := by omega
        rw [decide_eq_true h40, Bool.true_and] at HF
        go_wp2
        go_ret
        exact ⟨⟨_, rfl, HF⟩, HB.out⟩
      · have h40' : decide ((j : Int) ≤ 40) = false := by simp; omega
        rw [decide_eq_false h40, Bool.false_and] at HF
        go_wp2
        go_ret
        exact ⟨⟨_, rfl, HF⟩, HB.out⟩
/-- The blocks of awake. -/
def bs1 : List Blk := [⟨[], [0], [1]⟩, ⟨[0], [], []⟩]
theorem awk1 : resIn bs1 1 = [[], [0]] ∧ resOut bs1 1 = [[0], []] := by decide +kernel
theorem flt1 : fltP bs1 1 = 0 := by decide +kernel
theorem LsAt.list {w : World} {ls : List (List Int)} {ao : Option Addr} {n cap j : Nat} {l : List Int} (R : LsAt w (.slice ao n cap) ls) (h : ls[j]? = some l) : ∃ g o a c, ao = some ⟨g, o, none⟩ ∧ g < w.heap.size ∧ w.cell? ⟨g, o + j, none⟩ = some (.slice a l.length c) ∧ IntsAt w (.slice a l.length c) l := by
  obtain ⟨a, c, h1, h2⟩ := R
  cases h1
  obtain ⟨g, o, vr, e1, e2, e3, e4⟩ := h2 j l h
  obtain ⟨a', c', rfl⟩ := e4.slice
  exact ⟨g, o, a', c', e1, e2, e3, e4⟩
theorem LsAt.slice {w : World} {v : Value} {ls : List (List Int)} (R : LsAt w v ls) : ∃ ao cap, v = .slice ao ls.length cap := by
  obtain ⟨ao, cap, h, _⟩ := R
  exact ⟨ao, cap, h⟩
theorem ints_nil (w : World) : IntsAt w (.slice none 0 0) [] := ⟨none, 0, rfl, by simp, fun j x h => by simp at h⟩
theorem ints_one {w : World} {b : Nat} {x : Int} (h : w.heap[b]? = some (.cells #[.int .i64 x] 3 (0, 0))) : IntsAt w (.slice (some ⟨b, 0, none⟩) 1 1) [x] := by
  refine ⟨some ⟨b, 0, none⟩, 1, rfl, by simp, fun j y hj => ?_⟩
  cases j with
  | zero => simp at hj; subst hj; exact ⟨b, 0, rfl, lt_of_block h, cell_of h rfl⟩
  | succ j => simp at hj
theorem blks1 (w : World) : BlksAt ((((w.alloc (.cells #[.int .i64 0] 3)).alloc (.cells #[.int .i64 1] 3)).alloc (.cells #[.int .i64 0] 3)).alloc (.cells #[.slice none 0 0, .slice (some ⟨w.heap.size, 0, none⟩) 1 1, .slice (some ⟨w.heap.size + 1, 0, none⟩) 1 1, .slice (some ⟨w.heap.size + 1 + 1, 0, none⟩) 1 1, .slice none 0 0, .slice none 0 0] 41)) (.slice (some ⟨w.heap.size + 1 + 1 + 1, 0, none⟩) 2 2) bs1 := by
  have e3 : ((((w.alloc (.cells #[.int .i64 0] 3)).alloc (.cells #[.int .i64 1] 3)).alloc (.cells #[.int .i64 0] 3)).alloc (.cells #[.slice none 0 0, .slice (some ⟨w.heap.size, 0, none⟩) 1 1, .slice (some ⟨w.heap.size + 1, 0, none⟩) 1 1, .slice (some ⟨w.heap.size + 1 + 1, 0, none⟩) 1 1, .slice none 0 0, .slice none 0 0] 41)).heap[w.heap.size + 1 + 1 + 1]? = some (.cells #[.slice none 0 0, .slice (some ⟨w.heap.size, 0, none⟩) 1 1, .slice (some ⟨w.heap.size + 1, 0, none⟩) 1 1, .slice (some ⟨w.heap.size + 1 + 1, 0, none⟩) 1 1, .slice none 0 0, .slice none 0 0] 41 (0, 0)) := heap_new _ _ (by simp)
  have e2 : ((((w.alloc (.cells #[.int .i64 0] 3)).alloc (.cells #[.int .i64 1] 3)).alloc (.cells #[.int .i64 0] 3)).alloc (.cells #[.slice none 0 0, .slice (some ⟨w.heap.size, 0, none⟩) 1 1, .slice (some ⟨w.heap.size + 1, 0, none⟩) 1 1, .slice (some ⟨w.heap.size + 1 + 1, 0, none⟩) 1 1, .slice none 0 0, .slice none 0 0] 41)).heap[w.heap.size + 1 + 1]? = some (.cells #[.int .i64 0] 3 (0, 0)) := by rw [heap_under _ _ (by simp)]; exact heap_new _ _ (by simp)
  have e1 : ((((w.alloc (.cells #[.int .i64 0] 3)).alloc (.cells #[.int .i64 1] 3)).alloc (.cells #[.int .i64 0] 3)).alloc (.cells #[.slice none 0 0, .slice (some ⟨w.heap.size, 0, none⟩) 1 1, .slice (some ⟨w.heap.size + 1, 0, none⟩) 1 1, .slice (some ⟨w.heap.size + 1 + 1, 0, none⟩) 1 1, .slice none 0 0, .slice none 0 0] 41)).heap[w.heap.size + 1]? = some (.cells #[.int .i64 1] 3 (0, 0)) := by rw [heap_under _ _ (by simp), heap_under _ _ (by simp)]; exact heap_new _ _ (by simp)
  have e0 : ((((w.alloc (.cells #[.int .i64 0] 3)).alloc (.cells #[.int .i64 1] 3)).alloc (.cells #[.int .i64 0] 3)).alloc (.cells #[.slice none 0 0, .slice (some ⟨w.heap.size, 0, none⟩) 1 1, .slice (some ⟨w.heap.size + 1, 0, none⟩) 1 1, .slice (some ⟨w.heap.size + 1 + 1, 0, none⟩) 1 1, .slice none 0 0, .slice none 0 0] 41)).heap[w.heap.size]? = some (.cells #[.int .i64 0] 3 (0, 0)) := by rw [heap_under _ _ (by simp; omega), heap_under _ _ (by simp; omega), heap_under _ _ (by simp)]; exact heap_new _ _ rfl
  generalize ((((w.alloc (.cells #[.int .i64 0] 3)).alloc (.cells #[.int .i64 1] 3)).alloc (.cells #[.int .i64 0] 3)).alloc (.cells #[.slice none 0 0, .slice (some ⟨w.heap.size, 0, none⟩) 1 1, .slice (some ⟨w.heap.size + 1, 0, none⟩) 1 1, .slice (some ⟨w.heap.size + 1 + 1, 0, none⟩) 1 1, .slice none 0 0, .slice none 0 0] 41)) = W at *
  refine ⟨some ⟨w.heap.size + 1 + 1 + 1, 0, none⟩, 2, rfl, fun j b hj => ?_⟩
  match j, hj with
  | 0, hj =>
    simp [bs1] at hj
    subst hj
    exact ⟨_, 0, _, _, _, rfl, lt_of_block e3, cell_of e3 rfl, cell_of e3 rfl, cell_of e3 rfl, ints_nil W, ints_one e0, ints_one e1⟩
  | 1, hj =>
    simp [bs1] at hj
    subst hj
    exact ⟨_, 0, _, _, _, rfl, lt_of_block e3, cell_of e3 rfl, cell_of e3 rfl, cell_of e3 rfl, ints_one e2, ints_nil W, ints_nil W⟩
  | j + 2, hj => simp [bs1] at hj
set_option maxHeartbeats 2000000 in
theorem awake_any (w : World) : Calls Try.prog 11 #[] w fun e w' => e = .returned (.bool true) ∧ Below w.heap.size w w' := by
  have hB := blks1 w
  have hb0 : Below w.heap.size w ((((w.alloc (.cells #[.int .i64 0] 3)).alloc (.cells #[.int .i64 1] 3)).alloc (.cells #[.int .i64 0] 3)).alloc (.cells #[.slice none 0 0, .slice (some ⟨w.heap.size, 0, none⟩) 1 1, .slice (some ⟨w.heap.size + 1, 0, none⟩) 1 1, .slice (some ⟨w.heap.size + 1 + 1, 0, none⟩) 1 1, .slice none 0 0, .slice none 0 0] 41)) := ((((Below.refl _ _).alloc (Nat.le_refl _) _).alloc (by simp) _).alloc (by simp; omega) _).alloc (by simp; omega) _
  have hs := solve_any 1 hB
  rw [flt1] at hs
  have HB := hide hb0
  have HS := hide hs
  clear hs hB hb0
  go_enter Try.func11, Try.ntmps11
  go_upto_region 2 with (go_at_call 9; refine HS.out.mono ?_; rintro e w3 ⟨⟨v1, v2, rfl, hO⟩, hb3⟩; have HO := hide (And.intro hO hb3); clear hO hb3)
  obtain ⟨K, hK, S⟩ := snd_of flt1
  obtain rfl : K = 1 := by omega
  obtain ⟨q1, q2⟩ := HO.out.1.2 1 rfl S
  rw [awk1.1] at q1
  rw [awk1.2] at q2
  obtain ⟨ao1, cp1, rfl⟩ := q1.slice
  obtain ⟨ao2, cp2, rfl⟩ := q2.slice
  obtain ⟨g1, o1, a1, c1, rfl, l1, k1, _⟩ := q1.list (j := 0) rfl
  obtain ⟨g2, o2, a2, c2, e2, l2, k2, _⟩ := q1.list (j := 1) rfl
  cases e2
  obtain ⟨g3, o3, a3, c3, rfl, l3, k3, _⟩ := q2.list (j := 0) rfl
  simp only [List.length_cons, List.length_nil, Nat.add_zero, Nat.zero_add] at k1 k2 k3
  have HBB := hide HO.out.2
  clear HO q1 q2 S hK
  go_wp2
  go_ret
  exact ⟨rfl, HB.out.trans (HBB.out.mono HB.out.size)⟩
end
end Go.Proofs.Ytaejhppfcmeopaa
