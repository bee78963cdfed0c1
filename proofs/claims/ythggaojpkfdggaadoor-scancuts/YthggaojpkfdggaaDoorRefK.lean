/- The document's token. -/
import Derived.Test.YthggaojpkfdggaaDoorRefT
import Derived.Test.YthggaojpkfdggaaDoorRef7
namespace Go.Proofs.YthggaojpkfdggaaDoor
open Go.RowKit

/-- What the document's token answers; at a fault what it hands back is some token. -/
def TokR (k : Nat) (o : Option Tok) (e : Ending) : Prop := match o with
  | some (kd, t, n, j) => e = .returned (.tuple #[tokV kd ⟨t.toArray⟩ n k, .int .i64 j])
  | none => ∃ kd t n, e = .returned (.tuple #[tokV kd t n k, .int .i64 (-1)])

/-- The two blocks of a call of token, in a later world. -/
theorem two_later {w w1 : World} {z0 z1 z2 z3 b0 b1 b2 b3 : Value} (hb : Below ((w.alloc (.cells #[z0, z1, z2, z3] 31)).alloc (.cells #[b0, b1, b2, b3] 31)).heap.size ((w.alloc (.cells #[z0, z1, z2, z3] 31)).alloc (.cells #[b0, b1, b2, b3] 31)) w1) :
    (w1.cell? ⟨w.heap.size, 0, none⟩ = some z0 ∧ w1.cell? ⟨w.heap.size, 1, none⟩ = some z1 ∧ w1.cell? ⟨w.heap.size, 2, none⟩ = some z2 ∧ w1.cell? ⟨w.heap.size, 3, none⟩ = some z3) ∧
    (w1.cell? ⟨w.heap.size + 1, 0, none⟩ = some b0 ∧ w1.cell? ⟨w.heap.size + 1, 1, none⟩ = some b1 ∧ w1.cell? ⟨w.heap.size + 1, 2, none⟩ = some b2 ∧ w1.cell? ⟨w.heap.size + 1, 3, none⟩ = some b3) ∧
    (∀ o, w1.frozen? ⟨w.heap.size, o, none⟩ = false) ∧ (∀ o, w1.frozen? ⟨w.heap.size + 1, o, none⟩ = false) ∧ Below w.heap.size w w1 := by
  have hz : ((w.alloc (.cells #[z0, z1, z2, z3] 31)).alloc (.cells #[b0, b1, b2, b3] 31)).heap.size = w.heap.size + 2 := by simp
  have h1 : Below w.heap.size w ((w.alloc (.cells #[z0, z1, z2, z3] 31)).alloc (.cells #[b0, b1, b2, b3] 31)) := ((Below.refl _ _).alloc (Nat.le_refl _) _).alloc (by simp) _
  have c : ∀ b o, b < w.heap.size + 2 → w1.cell? ⟨b, o, none⟩ = ((w.alloc (.cells #[z0, z1, z2, z3] 31)).alloc (.cells #[b0, b1, b2, b3] 31)).cell? ⟨b, o, none⟩ := fun b o h => hb.cell (p := ⟨b, o, none⟩) (by rw [hz]; exact h)
  have f : ∀ b o, b < w.heap.size + 2 → w1.frozen? ⟨b, o, none⟩ = ((w.alloc (.cells #[z0, z1, z2, z3] 31)).alloc (.cells #[b0, b1, b2, b3] 31)).frozen? ⟨b, o, none⟩ := fun b o h => hb.frozen (p := ⟨b, o, none⟩) (by rw [hz]; exact h)
  have l0 : w.heap.size < w.heap.size + 2 := by omega
  have l1 : w.heap.size + 1 < w.heap.size + 2 := by omega
  refine ⟨⟨?_, ?_, ?_, ?_⟩, ⟨?_, ?_, ?_, ?_⟩, ?_, ?_, h1.trans (hb.mono (by omega))⟩
  · rw [c _ _ l0]; simp
  · rw [c _ _ l0]; simp
  · rw [c _ _ l0]; simp
  · rw [c _ _ l0]; simp
  · rw [c _ _ l1]; simp
  · rw [c _ _ l1]; simp
  · rw [c _ _ l1]; simp
  · rw [c _ _ l1]; simp
  · intro o; rw [f _ _ l0]; simp
  · intro o; rw [f _ _ l1]; simp

theorem numL_form {l : List UInt8} {k : Nat} {kd : Int} {t : List UInt8} {n : Int} {j : Nat} (h : numL l k = some (kd, t, n, j)) : kd = 2 ∧ t = [] := by
  unfold numL at h
  split at h
  · cases h
  · split at h
    · cases h
    · split at h
      · cases h
      · cases h; exact ⟨rfl, rfl⟩

theorem markL_form {l : List UInt8} {k : Nat} {kd : Int} {t : List UInt8} {n : Int} {j : Nat} (hk : k < l.length) (h : markL l k = some (kd, t, n, j)) : kd = 4 ∧ n = 0 ∧ j = k + t.length ∧ t ≠ [] ∧ t.length ≤ 2 := by
  have key : ∀ e, k < e → e ≤ l.length → (seg l k e).length = e - k := fun e h1 h2 => by
    unfold seg
    rw [List.length_take, List.length_drop]; omega
  unfold markL at h
  split at h
  · rename_i h2
    cases h
    have := key (k + 2) (by omega) h2.1
    exact ⟨rfl, rfl, by omega, fun h0 => by rw [h0] at this; simp at this, by omega⟩
  · split at h
    · cases h
      have := key (k + 1) (by omega) (by omega)
      exact ⟨rfl, rfl, by omega, fun h0 => by rw [h0] at this; simp at this, by omega⟩
    · cases h

set_option maxRecDepth 20000 in
set_option maxHeartbeats 4000000 in
theorem tokR_mark (s : ByteArray) (hs : s.size ≤ 65536) (k : Nat) (hk : k < s.size) (hf : firstP s[k] = false) (hd : digitP s[k] = false) (hq : quoteP s[k] = false) (w : World) :
    Calls Tryd.prog 21 #[.string s, .int .i64 k] w fun e w' => TokR k (markL s.data.toList k) e ∧ Below w.heap.size w w' := by
  have cL : ∀ W, Calls Tryd.prog 26 #[.int .u8 s[k].toNat] W _ := fun W => letterR_any s[k] W
  have cD : ∀ W, Calls Tryd.prog 24 #[.int .u8 s[k].toNat] W _ := fun W => digitR_any s[k] W
  rw [hf] at cL
  rw [hd] at cD
  have e34 : ((s[k].toNat : Int) == 34) = false := by
    apply beqF (d := 34) rfl
    intro h
    rw [h] at hq
    exact absurd hq (by decide)
  clear hf hd hq
  have cM : ∀ W, Calls Tryd.prog 36 #[.string s, .int .i64 k] W _ := fun W => markR_any s hs k hk W
  cases hm : markL s.data.toList k with
  | none =>
    have hmt : markT s.data.toList k = [] := by unfold markT; rw [hm]
    rw [hmt] at cM
    clear hm hmt
    go_enter Tryd.func21, Tryd.ntmps21
    go_wp2_with fail
    refine (cL _).mono ?_
    rintro e w1 ⟨rfl, hw⟩
    subst hw
    go_wp2_with fail
    refine (cD _).mono ?_
    rintro e w1 ⟨rfl, hw⟩
    subst hw
    go_wp2_with fail
    refine (cM _).mono ?_
    rintro e w1 ⟨rfl, hb⟩
    obtain ⟨⟨z0, z1, z2, z3⟩, ⟨t0, t1, t2, t3⟩, zf, tf, hbw⟩ := two_later hb
    clear hb
    go_wp2_with fail
    generalize hWB : (w1.setCell ⟨w.heap.size + 1, 0, none⟩ (.int .i64 4)).setCell ⟨w.heap.size + 1, 1, none⟩ (.string ⟨#[]⟩) = WB
    have y0 : WB.cell? ⟨w.heap.size, 0, none⟩ = some (.int .i64 0) := by rw [← hWB]; simp [go_sem, z0]
    have y1 : WB.cell? ⟨w.heap.size, 1, none⟩ = some (.string ⟨#[]⟩) := by rw [← hWB]; simp [go_sem, z1]
    have y2 : WB.cell? ⟨w.heap.size, 2, none⟩ = some (.int .i64 0) := by rw [← hWB]; simp [go_sem, z2]
    have y3 : WB.cell? ⟨w.heap.size, 3, none⟩ = some (.int .i64 0) := by rw [← hWB]; simp [go_sem, z3]
    have yb : Below w.heap.size w WB := by rw [← hWB]; exact (hbw.setCell (p := ⟨w.heap.size + 1, 0, none⟩) (Nat.le_succ _) _).setCell (p := ⟨w.heap.size + 1, 1, none⟩) (Nat.le_succ _) _
    clear hWB
    generalize hWf : (((WB.setCell ⟨w.heap.size, 0, none⟩ (.int .i64 4)).setCell ⟨w.heap.size, 1, none⟩ (.string ⟨#[]⟩)).setCell ⟨w.heap.size, 2, none⟩ (.int .i64 0)).setCell ⟨w.heap.size, 3, none⟩ (.int .i64 k) = Wf
    obtain ⟨_, hw4, d0, d1, d2, d3⟩ := put4 w.heap.size WB _ _ _ _ Wf y0 y1 y2 y3 hWf
    clear hWf
    exact bodyPost_ret (v := .tuple #[.agg #[.int .i64 4, .string ⟨#[]⟩, .int .i64 0, .int .i64 k], .int .i64 (-1)]) (by simp [results, Tryd.results21, go_sem, d0, d1, d2, d3]) rfl ⟨⟨_, _, _, rfl⟩, hw4 _ _ (Nat.le_refl _) yb⟩
  | some x =>
    obtain ⟨kd, t, n, j⟩ := x
    have hmt : markT s.data.toList k = t := by unfold markT; rw [hm]
    rw [hmt] at cM
    have hll : s.data.toList.length = s.size := by simp
    obtain ⟨rfl, rfl, rfl, hne, ht2⟩ := markL_form (by rw [hll]; exact hk) hm
    have hsz : (⟨t.toArray⟩ : ByteArray).size = t.length := by show t.toArray.size = _; simp
    have hemp : (⟨t.toArray⟩ : ByteArray).toList.isEmpty = false := by
      rw [Lib.toList_data]
      cases t with
      | nil => exact absurd rfl hne
      | cons a b => rfl
    clear hm hmt hll hne
    have HM : Hid (TokR k (some (4, t, 0, k + t.length)) (.returned (.tuple #[.agg #[.int .i64 4, .string ⟨t.toArray⟩, .int .i64 0, .int .i64 k], .int .i64 ((k + t.length : Nat) : Int)]))) := rfl
    generalize (⟨t.toArray⟩ : ByteArray) = mb at *
    go_enter Tryd.func21, Tryd.ntmps21
    go_wp2_with fail
    refine (cL _).mono ?_
    rintro e w1 ⟨rfl, hw⟩
    subst hw
    go_wp2_with fail
    refine (cD _).mono ?_
    rintro e w1 ⟨rfl, hw⟩
    subst hw
    go_wp2_with fail
    refine (cM _).mono ?_
    rintro e w1 ⟨rfl, hb⟩
    obtain ⟨⟨z0, z1, z2, z3⟩, ⟨t0, t1, t2, t3⟩, zf, tf, hbw⟩ := two_later hb
    clear hb
    go_wp2_with fail
    generalize hWB : (w1.setCell ⟨w.heap.size + 1, 0, none⟩ (.int .i64 4)).setCell ⟨w.heap.size + 1, 1, none⟩ (.string mb) = WB
    have y0 : WB.cell? ⟨w.heap.size, 0, none⟩ = some (.int .i64 0) := by rw [← hWB]; simp [go_sem, z0]
    have y1 : WB.cell? ⟨w.heap.size, 1, none⟩ = some (.string ⟨#[]⟩) := by rw [← hWB]; simp [go_sem, z1]
    have y2 : WB.cell? ⟨w.heap.size, 2, none⟩ = some (.int .i64 0) := by rw [← hWB]; simp [go_sem, z2]
    have y3 : WB.cell? ⟨w.heap.size, 3, none⟩ = some (.int .i64 0) := by rw [← hWB]; simp [go_sem, z3]
    have yb : Below w.heap.size w WB := by rw [← hWB]; exact (hbw.setCell (p := ⟨w.heap.size + 1, 0, none⟩) (Nat.le_succ _) _).setCell (p := ⟨w.heap.size + 1, 1, none⟩) (Nat.le_succ _) _
    clear hWB
    generalize hWf : (((WB.setCell ⟨w.heap.size, 0, none⟩ (.int .i64 4)).setCell ⟨w.heap.size, 1, none⟩ (.string mb)).setCell ⟨w.heap.size, 2, none⟩ (.int .i64 0)).setCell ⟨w.heap.size, 3, none⟩ (.int .i64 k) = Wf
    obtain ⟨_, hw4, d0, d1, d2, d3⟩ := put4 w.heap.size WB _ _ _ _ Wf y0 y1 y2 y3 hWf
    clear hWf
    exact bodyPost_ret (v := .tuple #[.agg #[.int .i64 4, .string mb, .int .i64 0, .int .i64 k], .int .i64 (((k + t.length : Nat) : Int))]) (by simp [results, Tryd.results21, go_sem, d0, d1, d2, d3]) rfl ⟨HM.out, hw4 _ _ (Nat.le_refl _) yb⟩

set_option maxRecDepth 20000 in
set_option maxHeartbeats 4000000 in
theorem tokR_num (s : ByteArray) (hs : s.size ≤ 65536) (k : Nat) (hk : k < s.size) (hf : firstP s[k] = false) (hd : digitP s[k] = true) (w : World) :
    Calls Tryd.prog 21 #[.string s, .int .i64 k] w fun e w' => TokR k (numL s.data.toList k) e ∧ Below w.heap.size w w' := by
  have cL : ∀ W, Calls Tryd.prog 26 #[.int .u8 s[k].toNat] W _ := fun W => letterR_any s[k] W
  have cD : ∀ W, Calls Tryd.prog 24 #[.int .u8 s[k].toNat] W _ := fun W => digitR_any s[k] W
  have cN : ∀ W, Calls Tryd.prog 34 #[.string s, .int .i64 k] W _ := fun W => numberR_any s hs k hk hd W
  rw [hf] at cL
  rw [hd] at cD
  clear hf hd
  cases hn : numL s.data.toList k with
  | none =>
    rw [hn] at cN
    change ∀ W, Calls Tryd.prog 34 _ W (fun e w' => e = .returned (.tuple #[.int .i64 0, .int .i64 (-1)]) ∧ w' = W) at cN
    clear hn
    go_enter Tryd.func21, Tryd.ntmps21
    go_wp2_with fail
    refine (cL _).mono ?_
    rintro e w1 ⟨rfl, hw⟩
    subst hw
    go_wp2_with fail
    refine (cD _).mono ?_
    rintro e w1 ⟨rfl, hw⟩
    subst hw
    go_wp2_with fail
    refine (cN _).mono ?_
    rintro e w1 ⟨rfl, hw⟩
    subst hw
    go_wp2_with fail
    exact bodyPost_ret (v := .tuple #[.agg #[.int .i64 2, .string ⟨#[]⟩, .int .i64 0, .int .i64 k], .int .i64 (-1)]) (by simp [results, Tryd.results21, go_sem]) rfl ⟨⟨_, _, _, rfl⟩, ((Below.refl _ _).alloc (Nat.le_refl _) _).alloc (by simp) _⟩
  | some x =>
    obtain ⟨kd, t, n, j⟩ := x
    rw [hn] at cN
    obtain ⟨rfl, rfl⟩ := numL_form hn
    change ∀ W, Calls Tryd.prog 34 _ W (fun e w' => e = .returned (.tuple #[.int .i64 n, .int .i64 j]) ∧ w' = W) at cN
    clear hn
    go_enter Tryd.func21, Tryd.ntmps21
    go_wp2_with fail
    refine (cL _).mono ?_
    rintro e w1 ⟨rfl, hw⟩
    subst hw
    go_wp2_with fail
    refine (cD _).mono ?_
    rintro e w1 ⟨rfl, hw⟩
    subst hw
    go_wp2_with fail
    refine (cN _).mono ?_
    rintro e w1 ⟨rfl, hw⟩
    subst hw
    go_wp2_with fail
    exact bodyPost_ret (v := .tuple #[.agg #[.int .i64 2, .string ⟨#[]⟩, .int .i64 n, .int .i64 k], .int .i64 j]) (by simp [results, Tryd.results21, go_sem]) rfl ⟨rfl, ((Below.refl _ _).alloc (Nat.le_refl _) _).alloc (by simp) _⟩

end Go.Proofs.YthggaojpkfdggaaDoor
