/- The document's stack: how it lies in memory; its size, where frames begin, what an address names. -/
import Derived.Test.YtjapfckadikjiaaStT
namespace Go.Proofs.Ytjapfckadikjiaa
open Go.RowKit

theorem Try.info70 : (Try.prog.info? 70).map (fun i => (i.zero, i.size, i.bytes)) = some (some (.agg #[.int .i64 0, .bool false]), 2, 16) := by kernel_rfl
theorem Try.info68 : (Try.prog.info? 68).map (fun i => (i.zero, i.size, i.bytes)) = some (some (.slice none 0 0), 1, 24) := by kernel_rfl
/-- The document's stack as a value. -/
abbrev rv (s : Sk) (vf : Value) : Value := .agg #[.int .i64 s.base, .int .i64 s.most, vf]
/-- The frames of the document's stack lie at vf, from block B on; g: the frames' own lists. -/
structure Rc (B : Nat) (w : World) (vf : Value) (g : Nat → Value) (fr : List (List Wo)) : Prop where
  row : w.ownsRow B 68 1 vf fr.length ((List.range fr.length).map g)
  els : ∀ (i : Nat) (f : List Wo), fr[i]? = some f → w.ownsRow B 70 2 (g i) f.length (wcells f)
  apart : ∀ i j : Nat, i < fr.length → j < fr.length → i ≠ j → (g i).ownBlock = none ∨ (g i).ownBlock ≠ (g j).ownBlock
def rown (vf : Value) (g : Nat → Value) (n j : Nat) : Prop := vf.ownBlock = some j ∨ ∃ i, i < n ∧ (g i).ownBlock = some j
section
variable {B : Nat} {w w' : World} {vf : Value} {g : Nat → Value} {fr : List (List Wo)} {s : Sk}
theorem Rc.own_lt (R : Rc B w vf g fr) {j : Nat} (h : rown vf g fr.length j) : B ≤ j ∧ j < w.heap.size := by
  rcases h with h | ⟨i, hi, h⟩
  · exact R.row.lt j h
  · exact (R.els i _ (List.getElem?_eq_getElem hi)).lt j h
theorem Rc.keep (R : Rc B w vf g fr) (h : ∀ j, rown vf g fr.length j → w'.heap[j]? = w.heap[j]?) : Rc B w' vf g fr :=
  ⟨ownsRow_keep R.row fun j hj => h j (.inl hj), fun i f hf => ownsRow_keep (R.els i f hf) fun j hj => h j (.inr ⟨i, get_lt hf, hj⟩), R.apart⟩
theorem Rc.below (R : Rc B w vf g fr) (hb : Below w.heap.size w w') : Rc B w' vf g fr := R.keep fun j hj => hb.block j (R.own_lt hj).2
theorem Rc.alloc (R : Rc B w vf g fr) (o : Obj) : Rc B (w.alloc o) vf g fr := R.keep fun j hj => Below.heap_alloc w o j (R.own_lt hj).2
theorem row_mono {B' : Nat} {e : TypeId} {size n : Nat} {v : Value} {xs : List Value} (h : w.ownsRow B e size v n xs) (hB : B' ≤ B) : w.ownsRow B' e size v n xs := by
  refine ⟨h.1, ?_⟩
  rcases h.2 with h1 | ⟨b, cap, cur, h1, h2, h3⟩
  · exact .inl h1
  · exact .inr ⟨b, cap, cur, h1, Nat.le_trans hB h2, h3⟩
theorem Rc.mono (R : Rc B w vf g fr) {B' : Nat} (h : B' ≤ B) : Rc B' w vf g fr :=
  ⟨row_mono R.row h, fun i f hf => row_mono (R.els i f hf) h, R.apart⟩
theorem row_form {e : TypeId} {size n : Nat} {v : Value} {xs : List Value} (h : w.ownsRow B e size v n xs) : ∃ ao cap, v = .slice ao n cap ∧ n ≤ cap ∧ cap ≤ maxLen := by
  rcases h.2 with ⟨h1, h2⟩ | ⟨b, cap, cur, h1, _, _, h3, h4, _⟩
  · exact ⟨none, 0, by rw [h1, h2], by omega, Nat.zero_le _⟩
  · exact ⟨_, cap, h1, h3, h4⟩
theorem row_cell {e : TypeId} {size n : Nat} {v : Value} {xs : List Value} (h : w.ownsRow B e size v n xs) {j : Nat} {x : Value} (hx : xs[j]? = some x) : ∃ b cap, v = .slice (some ⟨b, 0, none⟩) n cap ∧ w.cell? ⟨b, j, none⟩ = some x ∧ (∀ o, w.frozen? ⟨b, o, none⟩ = false) ∧ b < w.heap.size := by
  have hj := get_lt hx
  rw [h.1] at hj
  rcases h.2 with ⟨h1, h2⟩ | ⟨b, cap, cur, h1, _, h2, _, _, _, h4⟩
  · rw [h2] at hj; simp at hj
  · rw [← h4, List.getElem?_take, if_pos hj] at hx
    exact ⟨b, cap, h1, by simpa [World.cell?, h2] using hx, fun o => by simp [World.frozen?, h2], lt_of_block h2⟩
theorem Rc.frame (R : Rc B w vf g fr) {i : Nat} (hi : i < fr.length) : ∃ F cap, vf = .slice (some ⟨F, 0, none⟩) fr.length cap ∧ w.cell? ⟨F, i, none⟩ = some (g i) ∧ F < w.heap.size := by
  obtain ⟨F, cap, h1, h2, _, h3⟩ := row_cell R.row (j := i) (x := g i) (by simp [hi])
  exact ⟨F, cap, h1, h2, h3⟩
theorem Rc.word (R : Rc B w vf g fr) {i k : Nat} {f : List Wo} {u : Wo} (hf : fr[i]? = some f) (hu : f[k]? = some u) : ∃ b cap, g i = .slice (some ⟨b, 0, none⟩) f.length cap ∧ w.cell? ⟨b, k * 2, none⟩ = some (.int .i64 u.v) ∧ w.cell? ⟨b, k * 2 + 1, none⟩ = some (.bool u.p) ∧ (∀ o, w.frozen? ⟨b, o, none⟩ = false) ∧ b < w.heap.size := by
  obtain ⟨e1, e2⟩ := wcells_get hu
  obtain ⟨b, cap, h1, h2, h3, h4⟩ := row_cell (R.els i f hf) e1
  obtain ⟨b', cap', h1', h2', _⟩ := row_cell (R.els i f hf) e2
  rw [h1] at h1'
  cases h1'
  exact ⟨b, cap, h1, h2, h2', h3, h4⟩
theorem rcheck_any (n : Int) (w : World) : Calls Try.prog 8 #[.int .i64 n] w fun e w' => e = .returned (.bool (allowB n)) ∧ w' = w := by
  by_cases h1 : 1 ≤ n
  · by_cases h2 : n ≤ 1099511627776
    · have e1 : decide (1 ≤ n) = true := by simpa using h1
      have e2 : decide (n ≤ 1099511627776) = true := by simpa using h2
      have HE := hide (show allowB n = true by simp [allowB, h1, h2])
      rw [HE.out]
      go_enter Try.func8, Try.ntmps8
      go_wp2
      go_ret
      exact ⟨rfl, rfl⟩
    · have e1 : decide (1 ≤ n) = true := by simpa using h1
      have e2 : decide (n ≤ 1099511627776) = false := by simpa using h2
      have HE := hide (show allowB n = false by simp [allowB, h2])
      rw [HE.out]
      go_enter Try.func8, Try.ntmps8
      go_wp2
      go_ret
      exact ⟨rfl, rfl⟩
  · have e1 : decide (1 ≤ n) = false := by simpa using h1
    have HE := hide (show allowB n = false by simp [allowB, h1])
    rw [HE.out]
    go_enter Try.func8, Try.ntmps8
    go_wp2
    go_ret
    exact ⟨rfl, rfl⟩
/-- How many words there are. -/
theorem rsize_any (w : World) (R : Rc B w vf g s.fr) (I : SInv s) :
    Calls Try.prog 26 #[rv s vf] w fun e w' => e = .returned (.int .i64 s.ws.length) ∧ Below w.heap.size w w' := by
  have hfew := I.few
  have hfit := I.fit
  have hm1 := I.m1
  obtain ⟨ao, cp, hv, _⟩ := row_form R.row
  have R1 := hide R
  have HV := hide hv
  have b1 : (s.fr.length : Int) ≤ 1000 := by omega
  rw [hv]
  clear R I hv
  generalize hn : s.fr.length = n at *
  have HN := hide hn
  clear hn
  go_enter Try.func26, Try.ntmps26
  go_wp2
  go_loopw [3, 4] (fun a i wr => ∃ j : Nat, j ≤ n ∧ i = .int .i64 j ∧ a = .int .i64 (pre s.fr j) ∧ wr = w.alloc (.cells #[.int .i64 s.base, .int .i64 s.most, .slice ao n cp] 31)) (fun _ i _ => n - (intOf i).toNat)
  case atStart => exact ⟨0, Nat.zero_le _, rfl, by rw [pre_zero]; rfl, rfl⟩
  case round =>
    obtain ⟨j, hj, rfl, rfl, rfl⟩ := hrel
    have hpl := pre_le s.fr j
    have bp : (pre s.fr j : Int) ≤ 65536 := by have : s.fr.flatten.length = s.ws.length := rfl; omega
    by_cases hlt : j < n
    · obtain ⟨f, hf⟩ : ∃ f, s.fr[j]? = some f := ⟨s.fr[j]'(by rw [HN.out]; exact hlt), by simp⟩
      obtain ⟨F, cap, hvf, cf, hF⟩ := R1.out.frame (i := j) (by rw [HN.out]; exact hlt)
      obtain ⟨af, pf, hgf, _⟩ := row_form (R1.out.els j f hf)
      rw [HV.out, HN.out] at hvf
      cases hvf
      rw [hgf] at cf
      have hpg := pre_get hf
      have bf : (pre s.fr j : Int) + (f.length : Int) ≤ 65536 := by have : s.fr.flatten.length = s.ws.length := rfl; omega
      have HS := hide (pre_succ hf)
      have bj : (j : Int) < (n : Int) := by omega
      have d1 : decide (j < n) = true := by simpa using hlt
      clear hgf hf hpl hpg
      generalize f.length = k at *
      generalize pre s.fr j = q at *
      go_wp2
      go_roundw
      case rel => exact ⟨j + 1, by omega, by go_num, by rw [HS.out]; go_num, by first | rfl | trivial⟩
      case measure => simp [intOf]; omega
    · obtain rfl : j = n := by omega
      have d1 : decide (j < j) = false := by simp
      have HP := hide (show pre s.fr j = s.ws.length from pre_len (by rw [HN.out]; exact Nat.le_refl _))
      rw [HP.out]
      go_wp2
      go_ret
      exact ⟨rfl, (Below.refl _ _).alloc (Nat.le_refl _) _⟩
/-- Where a frame begins. -/
theorem rfrom_any (w : World) (R : Rc B w vf g s.fr) (I : SInv s) {m : Nat} (hm : m ≤ s.fr.length) :
    Calls Try.prog 31 #[rv s vf, .int .i64 m] w fun e w' => e = .returned (.int .i64 (s.base + pre s.fr m)) ∧ Below w.heap.size w w' := by
  have hfew := I.few
  have hfit := I.fit
  have hm1 := I.m1
  have hb1 := I.b1
  have hb2 := I.b2
  obtain ⟨ao, cp, hv, _⟩ := row_form R.row
  have R1 := hide R
  have HV := hide hv
  have b1 : (s.fr.length : Int) ≤ 1000 := by omega
  rw [hv]
  clear R I hv
  generalize hn : s.fr.length = n at *
  have HN := hide hn
  clear hn
  go_enter Try.func31, Try.ntmps31
  go_wp2
  go_loopw [5, 6] (fun a i wr => ∃ j : Nat, j ≤ m ∧ i = .int .i64 j ∧ a = .int .i64 (s.base + pre s.fr j) ∧ wr = w.alloc (.cells #[.int .i64 s.base, .int .i64 s.most, .slice ao n cp] 31)) (fun _ i _ => m - (intOf i).toNat)
  case atStart => exact ⟨0, Nat.zero_le _, rfl, by rw [pre_zero]; simp, rfl⟩
  case round =>
    obtain ⟨j, hj, rfl, rfl, rfl⟩ := hrel
    have hpl := pre_le s.fr j
    have bp : (pre s.fr j : Int) ≤ 65536 := by have : s.fr.flatten.length = s.ws.length := rfl; omega
    by_cases hlt : j < m
    · obtain ⟨f, hf⟩ : ∃ f, s.fr[j]? = some f := ⟨s.fr[j]'(by rw [HN.out]; omega), by simp⟩
      obtain ⟨F, cap, hvf, cf, hF⟩ := R1.out.frame (i := j) (by rw [HN.out]; omega)
      obtain ⟨af, pf, hgf, _⟩ := row_form (R1.out.els j f hf)
      rw [HV.out, HN.out] at hvf
      cases hvf
      rw [hgf] at cf
      have hpg := pre_get hf
      have bf : (pre s.fr j : Int) + (f.length : Int) ≤ 65536 := by have : s.fr.flatten.length = s.ws.length := rfl; omega
      have HS := hide (pre_succ hf)
      have bj : (j : Int) < (m : Int) := by omega
      have bj2 : (j : Int) < (n : Int) := by omega
      have d1 : decide (j < m) = true := by simpa using hlt
      clear hgf hf hpl hpg
      generalize f.length = k at *
      generalize pre s.fr j = q at *
      go_wp2
      go_roundw
      case rel => exact ⟨j + 1, by omega, by go_num, by rw [HS.out]; go_num, by first | rfl | trivial⟩
      case measure => simp [intOf]; omega
    · obtain rfl : j = m := by omega
      have d1 : decide (j < j) = false := by simp
      go_wp2
      go_ret
      exact ⟨rfl, (Below.refl _ _).alloc (Nat.le_refl _) _⟩
end
end Go.Proofs.Ytjapfckadikjiaa
