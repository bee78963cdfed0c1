/- Push. -/
import Derived.Test.YtjapfckadikjiaaStC
namespace Go.Proofs.Ytjapfckadikjiaa
open Go.RowKit

theorem push_nil (v : Value) (w : World) : Calls Try.prog 10 #[.pointer none, v] w fun e w' => e = .returned (.int .i64 1) ∧ w' = w := by
  go_enter Try.func10, Try.ntmps10
  go_wp2
  go_ret
  exact ⟨rfl, rfl⟩
/-- A list of truths that lies in memory, outside the stack's blocks. -/
def BoolsAt (X : Sx) (w : World) (v : Value) (ps : List Bool) : Prop :=
  (ps = [] ∧ ∃ ao cap, v = .slice ao 0 cap) ∨ ∃ b off cap, v = .slice (some ⟨b, off, none⟩) ps.length cap ∧ b < w.heap.size ∧ ¬ X.own b ∧ ∀ i q, ps[i]? = some q → w.cell? ⟨b, off + i, none⟩ = some (.bool q)
theorem BoolsAt.form {X : Sx} {w : World} {v : Value} {ps : List Bool} (h : BoolsAt X w v ps) : ∃ ao cap, v = .slice ao ps.length cap := by
  rcases h with ⟨rfl, ao, cap, h⟩ | ⟨b, off, cap, h, _⟩
  · exact ⟨ao, cap, h⟩
  · exact ⟨_, cap, h⟩
section
variable {X : Sx} {s : Sk} {w : World}
theorem run_appW {W : World} {B b m : Nat} {v : Value} {xs : List Value} {q : Bool} (hown : W.ownsRow B 65 2 v m xs) (hb : W.heap[b]? = some (.cells #[.int .i64 0, .bool q] 65 (0, 0))) (hlen : m < 1000000000) (hB : B ≤ W.heap.size) :
    ∃ g cap w', (Builtin.append_ #[61, 61] 61 #[v, .slice (some ⟨b, 0, none⟩) 1 1]).run Try.prog W = .ok (.slice (some ⟨g, 0, none⟩) (m + 1) cap) w' ∧
      w'.ownsRow B 65 2 (.slice (some ⟨g, 0, none⟩) (m + 1) cap) (m + 1) (xs ++ [.int .i64 0, .bool q]) ∧ W.grownBy w' v.ownBlock ∧ (v.ownBlock = some g ∨ g = W.heap.size) ∧ g < w'.heap.size := by
  obtain ⟨i0, hi, hz0, hz1, hz2⟩ := info_parts Try.info65
  exact run_append_lies (P := Try.prog) W 61 61 B 65 i0 _ 2 16 Try.underlying61 hi hz0 hz1 hz2 rfl (by decide) v m xs hown ⟨b, 0, none⟩ 1 1 [.int .i64 0, .bool q] rfl (World.news_of_block hb)
    (by intro u hu; simp at hu; rcases hu with rfl | rfl <;> rfl) (by decide) (by unfold maxLen; omega) (by omega) hB _ rfl
theorem run_app1 {W : World} {B b m : Nat} {v : Value} {xs : List Value} {a : Int} (hown : W.ownsRow B 3 1 v m xs) (hb : W.heap[b]? = some (.cells #[.int .i64 a] 3 (0, 0))) (hlen : m < 1000000000) (hB : B ≤ W.heap.size) :
    ∃ g cap w', (Builtin.append_ #[50, 50] 50 #[v, .slice (some ⟨b, 0, none⟩) 1 1]).run Try.prog W = .ok (.slice (some ⟨g, 0, none⟩) (m + 1) cap) w' ∧
      w'.ownsRow B 3 1 (.slice (some ⟨g, 0, none⟩) (m + 1) cap) (m + 1) (xs ++ [.int .i64 a]) ∧ W.grownBy w' v.ownBlock ∧ (v.ownBlock = some g ∨ g = W.heap.size) ∧ g < w'.heap.size := by
  obtain ⟨i0, hi, hz0, hz1, hz2⟩ := info_parts Try.info3
  exact run_append_lies (P := Try.prog) W 50 50 B 3 i0 _ 1 8 Try.underlying50 hi hz0 hz1 hz2 rfl (by decide) v m xs hown ⟨b, 0, none⟩ 1 1 [.int .i64 a] rfl (World.news_of_block hb)
    (by intro u hu; simp at hu; subst hu; rfl) (by decide) (by unfold maxLen; omega) (by omega) hB _ rfl
set_option maxHeartbeats 1000000 in
theorem push_full (w : World) (L : Sl X w s) (I : SInv s) {v : Value} {ps : List Bool} {ao : Option Addr} {cap : Nat} (hv : v = .slice ao ps.length cap) (hps : ps.length ≤ 1000000000) (h : pushOk s ps.length = false) :
    Calls Try.prog 10 #[X.p, v] w fun e w' => e = .returned (.int .i64 7) ∧ Below w.heap.size w w' := by
  have c1 := L.c1
  have c2 := L.c2
  have c3 := L.c3
  obtain ⟨a1, p1, h1⟩ := L.wlen
  obtain ⟨a2, p2, h2⟩ := L.slen
  rw [h1] at c2
  rw [h2] at c3
  subst hv
  have hfew := I.few
  have hm0 := I.m0
  have hm1 := I.m1
  have hfit := I.fit
  have h' : 1000 ≤ s.fr.length ∨ s.most - s.ws.length < ps.length := by
    have := of_decide_eq_false h; omega
  clear h h1 h2 L I
  generalize s.fr.length = n at *
  generalize s.ws.length = m at *
  generalize ps.length = k at *
  generalize s.most = mo at *
  by_cases hc : 1000 ≤ n
  · have d1 : decide (1000 ≤ (n : Int)) = true := by simp; omega
    have d2 : decide (1000 ≤ n) = true := by simpa using hc
    clear h'
    go_enter Try.func10, Try.ntmps10
    go_wp2
    go_quiet (fail)
    go_wp2
    go_ret
    exact ⟨rfl, below_drewN (Below.refl _ _) nq⟩
  · have d1 : decide (1000 ≤ (n : Int)) = false := by simp; omega
    have d2 : decide (1000 ≤ n) = false := by simpa using hc
    have h3 : mo - (m : Int) < (k : Int) := by omega
    have d3 : decide (mo - (m : Int) < (k : Int)) = true := by simpa using h3
    have b1 : (m : Int) ≤ 65536 := by omega
    have b2 : (k : Int) ≤ 1000000000 := by omega
    clear h'
    go_enter Try.func10, Try.ntmps10
    go_wp2
    go_quiet (fail)
    go_wp2
    go_ret
    exact ⟨rfl, below_drewN (Below.refl _ _) nq⟩
/-- The words behind the first j of a frame that is pushed. -/
def pw (s : Sk) (ps : List Bool) (j : Nat) : List Wo := s.ws ++ (ps.take j).map fun b => ⟨0, b⟩
theorem pw_length {s : Sk} {ps : List Bool} {j : Nat} (h : j ≤ ps.length) : (pw s ps j).length = s.ws.length + j := by simp [pw, Nat.min_eq_left h]
theorem pw_cells {s : Sk} {ps : List Bool} {j : Nat} {q : Bool} (h : ps[j]? = some q) : wcells (pw s ps (j + 1)) = wcells (pw s ps j) ++ [.int .i64 0, .bool q] := by
  unfold pw
  rw [List.take_add_one, h]
  simp [wcells_append, wcells]
/-- The stack in the midst of a push: its words, its frames' beginnings. -/
structure Mid (X : Sx) (w : World) (b m : Int) (l : List Wo) (st : List Nat) : Prop where
  blk : w.heap[X.A]? = some (.cells #[.int .i64 b, .int .i64 m, X.vw, X.vs] 63 (0, 0))
  wds : w.ownsRow X.B 65 2 X.vw l.length (wcells l)
  sts : w.ownsRow X.B 3 1 X.vs st.length (addrs st)
  base : X.B ≤ X.A
  hB : X.B ≤ w.heap.size
theorem Mid.ne {b m : Int} {l : List Wo} {st : List Nat} (M : Mid X w b m l st) : (∀ g, X.vw.ownBlock = some g → X.A ≠ g) ∧ (∀ g, X.vs.ownBlock = some g → X.A ≠ g) ∧ (∀ g, X.vw.ownBlock = some g → X.vs.ownBlock ≠ some g) := by
  have hw : ∀ g, X.vw.ownBlock = some g → ∃ cur, w.heap[g]? = some (.cells cur 65 (0, 0)) := fun g hg => by
    rcases M.wds.2 with ⟨h1, _⟩ | ⟨g', cap, cur, h1, _, h2, _⟩
    · rw [h1] at hg; cases hg
    · rw [h1] at hg; cases hg; exact ⟨cur, h2⟩
  have hs : ∀ g, X.vs.ownBlock = some g → ∃ cur, w.heap[g]? = some (.cells cur 3 (0, 0)) := fun g hg => by
    rcases M.sts.2 with ⟨h1, _⟩ | ⟨g', cap, cur, h1, _, h2, _⟩
    · rw [h1] at hg; cases hg
    · rw [h1] at hg; cases hg; exact ⟨cur, h2⟩
  refine ⟨fun g hg e => ?_, fun g hg e => ?_, fun g hg e => ?_⟩
  · obtain ⟨cur, h⟩ := hw g hg
    rw [← e, M.blk] at h; simp at h
  · obtain ⟨cur, h⟩ := hs g hg
    rw [← e, M.blk] at h; simp at h
  · obtain ⟨cur, h⟩ := hw g hg
    obtain ⟨cur', h'⟩ := hs g e
    rw [h] at h'; simp at h'
theorem Mid.keep {b m : Int} {l : List Wo} {st : List Nat} {w' : World} (M : Mid X w b m l st) (h : ∀ j, X.own j → w'.heap[j]? = w.heap[j]?) (hz : w.heap.size ≤ w'.heap.size) : Mid X w' b m l st :=
  ⟨(h _ (.inl rfl)).trans M.blk, ownsRow_keep M.wds fun g hg => h g (.inr (.inl hg)), ownsRow_keep M.sts fun g hg => h g (.inr (.inr hg)), M.base, Nat.le_trans M.hB hz⟩
theorem Mid.own_lt {b m : Int} {l : List Wo} {st : List Nat} (M : Mid X w b m l st) {j : Nat} (hj : X.own j) : X.B ≤ j ∧ j < w.heap.size := by
  rcases hj with rfl | hj | hj
  · exact ⟨M.base, lt_of_block M.blk⟩
  · exact M.wds.lt j hj
  · exact M.sts.lt j hj
theorem Mid.alloc {b m : Int} {l : List Wo} {st : List Nat} (M : Mid X w b m l st) (o : Obj) : Mid X (w.alloc o) b m l st := M.keep (fun j hj => Below.heap_alloc w o j (M.own_lt hj).2) (by simp)
theorem Mid.drewN {b m : Int} {l : List Wo} {st : List Nat} (M : Mid X w b m l st) (q : Nat) : Mid X (w.drewN q) b m l st := M.keep (fun _ _ => rfl) (Nat.le_refl _)
theorem Sl.mid (L : Sl X w s) : Mid X w s.base s.most s.ws (sta 0 s.fr) := ⟨L.blk, L.wds, by rw [sta_length]; exact L.sts, L.base, L.hB⟩
theorem Mid.sl {s' : Sk} (M : Mid X w s'.base s'.most s'.ws (sta 0 s'.fr)) : Sl X w s' := ⟨M.blk, M.wds, by have := M.sts; rw [sta_length] at this; exact this, M.base, M.hB⟩
/-- The words' slice after an append whose result is stored. -/
theorem Mid.appW {b m : Int} {l l' : List Wo} {st : List Nat} {w0 w4 : World} {g cap : Nat} (M : Mid X w0 b m l st) (hg : w0.grownBy w4 X.vw.ownBlock) (hat : X.vw.ownBlock = some g ∨ g = w0.heap.size) (how : w4.ownsRow X.B 65 2 (.slice (some ⟨g, 0, none⟩) l'.length cap) l'.length (wcells l')) :
    Mid { X with vw := .slice (some ⟨g, 0, none⟩) l'.length cap } (w4.setCell ⟨X.A, 2, none⟩ (.slice (some ⟨g, 0, none⟩) l'.length cap)) b m l' st ∧
    Stp X { X with vw := .slice (some ⟨g, 0, none⟩) l'.length cap } w0 (w4.setCell ⟨X.A, 2, none⟩ (.slice (some ⟨g, 0, none⟩) l'.length cap)) := by
  obtain ⟨n1, n2, n3⟩ := M.ne
  have hA := lt_of_block M.blk
  have hbA : w4.heap[X.A]? = w0.heap[X.A]? := hg.block X.A hA (fun e => n1 X.A e.symm rfl)
  have hgA : g ≠ X.A := by
    rcases hat with e | e
    · exact (n1 g e).symm
    · omega
  have hz := hg.size
  refine ⟨⟨?_, ?_, ?_, M.base, by rw [World.size_setCell]; exact Nat.le_trans M.hB hz⟩, ⟨rfl, rfl, hg.os, hg.tape, hg.output, by rw [World.size_setCell]; exact hz, fun j hj hn => ?_, fun j hj => ?_⟩⟩
  · rw [heap_setCell_same w4 X.A 2 _ (hbA.trans M.blk)]; rfl
  · exact ownsRow_keep how fun j hj => Below.heap_setCell _ _ _ _ (by simp [Value.ownBlock] at hj; subst hj; exact hgA)
  · refine ownsRow_keep M.sts fun j hj => ?_
    have hj' : X.vs.ownBlock = some j := hj
    rw [Below.heap_setCell _ _ _ _ (n2 j hj').symm]
    exact hg.block j (M.sts.lt j hj').2 (fun e => n3 j e.symm hj')
  · rw [Below.heap_setCell _ _ _ _ (fun e => hn (.inl e))]
    exact hg.block j hj (fun e => hn (.inr (.inl e.symm)))
  · rcases hj with h | h | h
    · exact .inl (.inl h)
    · simp [Value.ownBlock] at h
      subst h
      rcases hat with e | e
      · exact .inl (.inr (.inl e))
      · right; omega
    · exact .inl (.inr (.inr h))
theorem Mid.appS {b m : Int} {l : List Wo} {st st' : List Nat} {w0 w4 : World} {g cap : Nat} (M : Mid X w0 b m l st) (hg : w0.grownBy w4 X.vs.ownBlock) (hat : X.vs.ownBlock = some g ∨ g = w0.heap.size) (how : w4.ownsRow X.B 3 1 (.slice (some ⟨g, 0, none⟩) st'.length cap) st'.length (addrs st')) :
    Mid { X with vs := .slice (some ⟨g, 0, none⟩) st'.length cap } (w4.setCell ⟨X.A, 3, none⟩ (.slice (some ⟨g, 0, none⟩) st'.length cap)) b m l st' ∧
    Stp X { X with vs := .slice (some ⟨g, 0, none⟩) st'.length cap } w0 (w4.setCell ⟨X.A, 3, none⟩ (.slice (some ⟨g, 0, none⟩) st'.length cap)) := by
  obtain ⟨n1, n2, n3⟩ := M.ne
  have hA := lt_of_block M.blk
  have hbA : w4.heap[X.A]? = w0.heap[X.A]? := hg.block X.A hA (fun e => n2 X.A e.symm rfl)
  have hgA : g ≠ X.A := by
    rcases hat with e | e
    · exact (n2 g e).symm
    · omega
  have hz := hg.size
  refine ⟨⟨?_, ?_, ?_, M.base, by rw [World.size_setCell]; exact Nat.le_trans M.hB hz⟩, ⟨rfl, rfl, hg.os, hg.tape, hg.output, by rw [World.size_setCell]; exact hz, fun j hj hn => ?_, fun j hj => ?_⟩⟩
  · rw [heap_setCell_same w4 X.A 3 _ (hbA.trans M.blk)]; rfl
  · refine ownsRow_keep M.wds fun j hj => ?_
    have hj' : X.vw.ownBlock = some j := hj
    rw [Below.heap_setCell _ _ _ _ (n1 j hj').symm]
    exact hg.block j (M.wds.lt j hj').2 (fun e => n3 j hj' e.symm)
  · exact ownsRow_keep how fun j hj => Below.heap_setCell _ _ _ _ (by simp [Value.ownBlock] at hj; subst hj; exact hgA)
  · rw [Below.heap_setCell _ _ _ _ (fun e => hn (.inl e))]
    exact hg.block j hj (fun e => hn (.inr (.inr e.symm)))
  · rcases hj with h | h | h
    · exact .inl (.inl h)
    · exact .inl (.inr (.inl h))
    · simp [Value.ownBlock] at h
      subst h
      rcases hat with e | e
      · exact .inl (.inr (.inr e))
      · right; omega
end
end Go.Proofs.Ytjapfckadikjiaa
