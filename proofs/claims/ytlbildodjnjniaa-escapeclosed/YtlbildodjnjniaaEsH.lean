/- addresses and holds: whose addresses come to what. -/
import Derived.Test.YtlbildodjnjniaaEsG
import Derived.Test.YtlbildodjnjniaaEsO
namespace Go.Proofs.Ytlbildodjnjniaa
open Go.RowKit

/-- Of the first j points those whose address comes. -/
def adr (l : Int → Int) (j : Nat) : List Int := ((List.range j).filter fun (i : Nat) => decide (l i = -1)).map fun (i : Nat) => (i : Int)
theorem adr_succ (l : Int → Int) (j : Nat) : adr l (j + 1) = adr l j ++ if l j = -1 then [(j : Int)] else [] := by
  unfold adr
  rw [List.range_succ, List.filter_append, List.map_append]
  by_cases h : l j = -1 <;> simp [h]
theorem adr_mem {l : Int → Int} {n : Nat} {x : Int} : x ∈ adr l n ↔ 0 ≤ x ∧ x < n ∧ l x = -1 := by
  unfold adr
  simp only [List.mem_map, List.mem_filter, List.mem_range, decide_eq_true_eq]
  constructor
  · rintro ⟨i, ⟨h1, h2⟩, rfl⟩; exact ⟨by omega, by omega, h2⟩
  · rintro ⟨h1, h2, h3⟩
    exact ⟨x.toNat, ⟨by omega, by rw [show ((x.toNat : Nat) : Int) = x by omega]; exact h3⟩, by omega⟩
theorem adr_len (l : Int → Int) (j : Nat) : (adr l j).length ≤ j := by
  unfold adr
  rw [List.length_map]
  exact Nat.le_trans (List.length_filter_le _ _) (by simp)
theorem ownsRow_base {w : World} {b b' : Nat} {e : TypeId} {size : Nat} {v : Value} {n : Nat} {xs : List Value} (h : w.ownsRow b e size v n xs) (hb : b' ≤ b) : w.ownsRow b' e size v n xs := by
  refine ⟨h.1, ?_⟩
  rcases h.2 with h2 | ⟨g, cap, cur, h1, h2, h3⟩
  · exact .inl h2
  · exact .inr ⟨g, cap, cur, h1, Nat.le_trans hb h2, h3⟩
set_option maxHeartbeats 1000000 in
theorem addresses_any {w : World} {vg : Value} {n : Nat} {fs : List Fl} {root : Int} (G : GrAt w vg n fs) (S : Snd n fs) (hn : n ≤ 512) (hf : fs.length ≤ 20000) (hr : -1 ≤ root) (hr2 : root < n) :
    Calls Try.prog 33 #[vg, .int .i64 root] w fun e w' => ∃ (v : Value) (l : List Int), e = .returned v ∧ Hid (w'.ownsRow w.heap.size 3 1 v l.length (ints l) ∧ l.length ≤ n ∧ ∀ x, x ∈ l ↔ 0 ≤ x ∧ x < n ∧ Hld fs root x) ∧ Below w.heap.size w w' := by
  have hc := reach_any (B := (n : Int) + 1) G S hn hf hr hr2 (by omega) (by omega)
  obtain ⟨bg, cg, rfl, hbg, _⟩ := G
  have HS := hide S
  have b1 : (n : Int) ≤ 512 := by omega
  clear S
  go_enter Try.func33, Try.ntmps33
  go_wp2_with fail
  refine hc.mono ?_
  rintro e w2 ⟨l, v2, rfl, HV, HL, hb⟩
  have HB := hide hb
  clear hc hb
  obtain ⟨ao, cp, hv2, hcell⟩ := HV.out
  simp only [List.length_map, List.length_range] at hv2
  subst hv2
  have HC := hide hcell
  clear hcell HV
  go_wp2
  go_loopg [5, 14] n (fun K v i wr => ∃ j : Nat, i = .int .i64 j ∧ j ≤ n ∧ n - j ≤ K ∧ Hid (wr.ownsRow w2.heap.size 3 1 v (adr l j).length (ints (adr l j)) ∧ Below w2.heap.size w2 wr))
  case atStart => exact ⟨0, rfl, Nat.zero_le _, Nat.le_refl _, ⟨rfl, .inl ⟨rfl, rfl⟩⟩, Below.refl _ _⟩
  case round =>
    obtain ⟨j, rfl, hj, hk, HJ⟩ := hrel
    obtain ⟨av, cv, hv⟩ := row_form HJ.out.1
    subst hv
    by_cases hlt : j < n
    · obtain ⟨g, o, hao, hg, c0⟩ := HC.out j (l j) (by rw [List.getElem?_map, List.getElem?_range hlt]; rfl)
      subst hao
      rw [← HJ.out.2.cell (p := ⟨g, o + j, none⟩) hg] at c0
      have hs := adr_succ l j
      have bj : (j : Int) < (n : Int) := by omega
      have hal := adr_len l j
      by_cases hx : l j = -1
      · rw [if_pos hx] at hs
        rw [hx] at c0
        obtain ⟨W3, hW3⟩ : ∃ W3, wr.alloc (.cells #[.int .i64 (j : Int)] 3) = W3 := ⟨_, rfl⟩
        have hb3 : Below wr.heap.size wr W3 := by rw [← hW3]; exact (Below.refl _ _).alloc (Nat.le_refl _) _
        have nb3 : W3.heap[wr.heap.size]? = some (.cells #[.int .i64 (j : Int)] 3 (0, 0)) := by rw [← hW3]; exact heap_new _ _ rfl
        have hb23 := HJ.out.2.trans (hb3.mono HJ.out.2.size)
        obtain ⟨ga, ca, w4, hrun, hown, hgrow, hat, hlt4⟩ := run_appI (C := w2.heap.size) (ownsRow_keep (w' := W3) HJ.out.1 fun g hg => hb3.block g (HJ.out.1.lt g hg).2) nb3 (by omega) hb23.size
        have hb24 : Below w2.heap.size w2 w4 := hb23.grown hgrow hb23.size (fun q hq => (HJ.out.1.lt q hq).1)
        have HJ4 := hide (show w4.ownsRow w2.heap.size 3 1 (.slice (some ⟨ga, 0, none⟩) ((adr l j).length + 1) ca) (adr l (j + 1)).length (ints (adr l (j + 1))) ∧ Below w2.heap.size w2 w4 from by
          refine ⟨?_, hb24⟩
          rw [hs, List.length_append, show ints (adr l j ++ [(j : Int)]) = ints (adr l j) ++ [.int .i64 (j : Int)] by simp [ints]]
          exact hown)
        clear hb3 nb3 hb23 hown hgrow hat hb24 hs hx hal
        go_wp2_with (at_builtin; refine wpList_append_eq rfl _ _ 24 rfl rfl rfl hrun ?_)
        go_roundg (n - (j + 1))
        case measure => omega
        case rel => exact ⟨j + 1, by go_num, by omega, Nat.le_refl _, HJ4⟩
      · rw [if_neg hx, List.append_nil] at hs
        have hx' : (l j == -1) = false := by simpa using hx
        have HJ4 := HJ
        rw [← hs] at HJ4
        have hle : (adr l j).length = (adr l (j + 1)).length := by rw [hs]
        clear hs hal HJ
        go_wp2
        go_roundg (n - (j + 1))
        case measure => omega
        case rel => exact ⟨j + 1, by go_num, by omega, Nat.le_refl _, by rw [hle]; exact HJ4⟩
    · obtain rfl : j = n := by omega
      go_wp2
      go_ret
      refine ⟨_, adr l j, rfl, hide ⟨ownsRow_base HJ.out.1 HB.out.size, adr_len _ _, fun x => ?_⟩, HB.out.trans (HJ.out.2.mono HB.out.size)⟩
      rw [adr_mem, hld_of HS.out HL.out (by omega) (by omega)]
end Go.Proofs.Ytlbildodjnjniaa
