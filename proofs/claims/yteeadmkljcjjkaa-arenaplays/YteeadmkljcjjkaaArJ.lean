/- Live. -/
import Derived.Test.YteeadmkljcjjkaaArI
namespace Go.Proofs.Yteeadmkljcjjkaa
open Go.RowKit Go.Maps

theorem live_nil (w : World) : Calls Try.prog 24 #[.pointer none] w fun e w' => e = .returned (.slice none 0 0) ∧ w' = w := by
  go_enter Try.func24, Try.ntmps24
  go_wp2
  go_ret
  exact ⟨rfl, rfl⟩
def liveL (ps : List Pc) : List Nat := (ps.filter fun p => decide (0 < p.n)).map (·.a)
theorem liveL_snoc {ps : List Pc} {j : Nat} {p : Pc} (h : ps[j]? = some p) : liveL (ps.take (j + 1)) = liveL (ps.take j) ++ if 0 < p.n then [p.a] else [] := by
  have : ps.take (j + 1) = ps.take j ++ [p] := by rw [List.take_add_one, h]; rfl
  rw [this]
  unfold liveL
  by_cases hn : 0 < p.n <;> simp [hn]
theorem liveL_le (ps : List Pc) (j : Nat) : (liveL (ps.take j)).length ≤ j := by
  unfold liveL
  rw [List.length_map]
  exact Nat.le_trans (List.length_filter_le _ _) (by simp; omega)
/-- One number more behind a row of one's own. -/
theorem run_app1 {W : World} {B b m : Nat} {v : Value} {xs : List Value} {a : Int} (hown : W.ownsRow B 3 1 v m xs) (hb : W.heap[b]? = some (.cells #[.int .i64 a] 3 (0, 0))) (hlen : m < 1000000000) (hB : B ≤ W.heap.size) :
    ∃ g cap w', (Builtin.append_ #[29, 29] 29 #[v, .slice (some ⟨b, 0, none⟩) 1 1]).run Try.prog W = .ok (.slice (some ⟨g, 0, none⟩) (m + 1) cap) w' ∧
      w'.ownsRow B 3 1 (.slice (some ⟨g, 0, none⟩) (m + 1) cap) (m + 1) (xs ++ [.int .i64 a]) ∧ W.grownBy w' v.ownBlock ∧ (v.ownBlock = some g ∨ g = W.heap.size) ∧ g < w'.heap.size := by
  obtain ⟨i0, hi, hz0, hz1, hz2⟩ := info_parts Try.info3
  exact run_append_lies (P := Try.prog) W 29 29 B 3 i0 _ 1 8 Try.underlying29 hi hz0 hz1 hz2 rfl (by decide) v m xs hown ⟨b, 0, none⟩ 1 1 [.int .i64 a] rfl (World.news_of_block hb)
    (by intro u hu; simp at hu; subst hu; rfl) (by decide) (by unfold maxLen; omega) (by omega) hB _ rfl
section
variable {X : Wh} {s : As} {k : Nat} {w : World}
set_option maxHeartbeats 1000000 in
theorem live_any (L : Lies X w s k) (I : Inv s) :
    Calls Try.prog 24 #[X.p] w fun e w' => ∃ v, e = .returned v ∧ w'.ownsRow w.heap.size 3 1 v (liveL s.ps).length (addrs (liveL s.ps)) ∧ Below w.heap.size w w' := by
  have hlen := I.pieces
  obtain ⟨ao, cp, hv, hao⟩ : ∃ ao cap, X.vp = .slice ao s.ps.length cap ∧ (0 < s.ps.length → ∃ g, ao = some ⟨g, 0, none⟩) := by
    rcases L.pform with ⟨h1, h2⟩ | ⟨g, cap, _, h2, _⟩
    · exact ⟨none, 0, by rw [h1]; exact h2, fun h => by rw [h1] at h; simp at h⟩
    · exact ⟨_, cap, h2, fun _ => ⟨g, rfl⟩⟩
  have c2 := L.c2
  rw [hv] at c2
  have LH := hide L
  have HV := hide hv
  have HA := hide hao
  clear L I hv hao
  generalize hn : s.ps.length = n at *
  have HN := hide hn
  clear hn
  go_enter Try.func24, Try.ntmps24
  go_wp2
  go_loopw [3, 13] (fun l i wr => ∃ j : Nat, j ≤ n ∧ i = .int .i64 j ∧ wr.ownsRow w.heap.size 3 1 l (liveL (s.ps.take j)).length (addrs (liveL (s.ps.take j))) ∧ Below w.heap.size w wr) (fun _ i _ => n - (intOf i).toNat)
  case atStart => exact ⟨0, Nat.zero_le _, rfl, ⟨rfl, .inl ⟨rfl, rfl⟩⟩, Below.refl _ _⟩
  case round =>
    obtain ⟨j, hj, rfl, hown, hb⟩ := hrel
    by_cases hlt : j < n
    · obtain ⟨p, hp⟩ : ∃ p, s.ps[j]? = some p := ⟨s.ps[j]'(by rw [HN.out]; exact hlt), by simp⟩
      obtain ⟨g, cap, hv, d1, d2, _⟩ := (LH.out.below hb).piece hp
      obtain rfl : ao = some ⟨g, 0, none⟩ := by
        have h1 := HV.out; rw [hv] at h1; cases h1; rfl
      have bj : (j : Int) < (n : Int) := by omega
      have hll := liveL_le s.ps j
      have HS := hide (liveL_snoc hp)
      have HO := hide hown
      clear hv hown hp
      generalize liveL (s.ps.take j) = ls at *
      by_cases hn0 : 0 < p.n
      · have hd : decide (0 < (p.n : Int)) = true := by simpa using hn0
        have hz := hb.size
        obtain ⟨W3, hW3⟩ : ∃ W3, (wr.alloc (.cells #[.int .i64 (p.a : Int), .int .i64 (p.n : Int)] 64)).alloc (.cells #[.int .i64 (p.a : Int)] 3) = W3 := ⟨_, rfl⟩
        have z3 : W3.heap.size = wr.heap.size + 1 + 1 := by rw [← hW3]; simp
        have hnb : W3.heap[wr.heap.size + 1]? = some (.cells #[.int .i64 (p.a : Int)] 3 (0, 0)) := by rw [← hW3, heap_new _ _ (by simp)]
        have own3 := (HO.out.alloc (.cells #[.int .i64 (p.a : Int), .int .i64 (p.n : Int)] 64)).alloc (.cells #[.int .i64 (p.a : Int)] 3)
        rw [hW3] at own3
        obtain ⟨ga, capa, w4, hrun, hown4, hgrow, hat, hltg⟩ := run_app1 own3 hnb (by omega) (by omega)
        have HO4 := hide hown4
        have HB4 := hide (show Below w.heap.size w w4 from Below.grown (by rw [← hW3]; exact ((hb.alloc (by omega) _).alloc (by simp; omega) _)) hgrow (by omega) (fun q hq => (HO.out.lt q hq).1))
        clear hown4 hgrow hat own3 hnb
        subst hW3
        go_wp2_with (at_builtin; refine wpList_append_eq rfl _ _ 29 rfl rfl rfl hrun ?_)
        go_wp2
        go_roundw
        case rel => exact ⟨j + 1, by omega, by go_num, by rw [HS.out, if_pos hn0, List.length_append, List.length_singleton, show addrs (ls ++ [p.a]) = addrs ls ++ [.int .i64 (p.a : Int)] by simp [addrs]]; exact HO4.out, HB4.out⟩
        case measure => simp [intOf]; omega
      · have hd : decide (0 < (p.n : Int)) = false := by simpa using hn0
        have hz := hb.size
        go_wp2
        go_roundw
        case rel => exact ⟨j + 1, by omega, by go_num, by rw [HS.out, if_neg hn0, List.append_nil]; exact HO.out.alloc _, hb.alloc (by omega) _⟩
        case measure => simp [intOf]; omega
    · obtain rfl : j = n := by omega
      go_wp2
      go_ret
      rw [← HN.out, List.take_length] at hown
      exact ⟨_, rfl, hown, hb⟩
end
end Go.Proofs.Yteeadmkljcjjkaa
