/- The document's Decode: plain. -/
import Derived.Test.YtnkdlbiicfnmcaaCdHi
import Derived.Test.YtnkdlbiicfnmcaaCdSTJt
namespace Go.Proofs.Ytnkdlbiicfnmcaa
open Go.RowKit
/-- The document's reader comes to the same, or both come to a fault. -/
def Agl {α : Type} (it : Rs → α × Rs) (s : Rs) (x : α) (s' : Rs) : Prop := (s'.bad = false ∧ s.bad = false ∧ it s = (x, s')) ∨ (s'.bad = true ∧ (s.bad = true ∨ (it s).2 = failS))
/-- One behind the other. -/
theorem Agl.seq {α β : Type} {f : Rs → α × Rs} {g : Rs → β × Rs} {s s1 s2 : Rs} {x : α} {y : β} (h1 : Agl f s x s1) (h2 : Agl g s1 y s2) (hg : (g failS).2 = failS) (hs : s.bad = false) : (s2.bad = false ∧ f s = (x, s1) ∧ g s1 = (y, s2)) ∨ (s2.bad = true ∧ (g (f s).2).2 = failS) := by
  rcases h1 with ⟨a1, a2, a3⟩ | ⟨a1, a2⟩
  · rcases h2 with ⟨b1, b2, b3⟩ | ⟨b1, b2⟩
    · exact .inl ⟨b1, a3, b3⟩
    · right
      refine ⟨b1, ?_⟩
      rw [a3]
      rcases b2 with b2 | b2
      · rw [a1] at b2; cases b2
      · exact b2
  · right
    have hf : (f s).2 = failS := by
      rcases a2 with a2 | a2
      · rw [hs] at a2; cases a2
      · exact a2
    rcases h2 with ⟨b1, b2, _⟩ | ⟨b1, _⟩
    · rw [a1] at b2; cases b2
    · exact ⟨b1, by rw [hf, hg]⟩
/-- A program's four lists. -/
theorem pg_agree {s s1 s2 s3 s4 : Rs} {l1 : List (List Int)} {l2 : List Fd} {l3 : List (List Int)} {l4 : List By} (h0 : (fixedR s).bad = false) (h1 : Agl (lstR intsR) (fixedR s) l1 s1) (h2 : Agl (lstR fdR) s1 l2 s2) (h3 : Agl (lstR intsR) s2 l3 s3) (h4 : Agl (lstR strR) s3 l4 s4) :
    (s4.bad = false ∧ pgR s = (⟨l1, l2, l3, l4⟩, s4)) ∨ (s4.bad = true ∧ (pgR s).2 = failS) := by
  have hE : (pgR s).2 = (lstR strR (lstR intsR (lstR fdR (lstR intsR (fixedR s)).2).2).2).2 := by simp only [pgR]
  rcases h1 with ⟨a1, a2, a3⟩ | ⟨a1, a2⟩
  · rcases h2 with ⟨b1, b2, b3⟩ | ⟨b1, b2⟩
    · rcases h3 with ⟨c1, c2, c3⟩ | ⟨c1, c2⟩
      · rcases h4 with ⟨d1, d2, d3⟩ | ⟨d1, d2⟩
        · exact .inl ⟨d1, by simp only [pgR, a3, b3, c3, d3]⟩
        · right
          refine ⟨d1, ?_⟩
          rw [hE, a3, b3, c3]
          rcases d2 with d2 | d2
          · rw [c1] at d2; cases d2
          · exact d2
      · right
        have hf : (lstR intsR s2).2 = failS := by
          rcases c2 with c2 | c2
          · rw [b1] at c2; cases c2
          · exact c2
        rcases h4 with ⟨_, d2, _⟩ | ⟨d1, _⟩
        · rw [c1] at d2; cases d2
        · exact ⟨d1, by rw [hE, a3, b3]; simp only [hf]; exact lstR_fail _⟩
    · right
      have hf : (lstR fdR s1).2 = failS := by
        rcases b2 with b2 | b2
        · rw [a1] at b2; cases b2
        · exact b2
      rcases h3 with ⟨_, c2, _⟩ | ⟨c1, _⟩
      · rw [b1] at c2; cases c2
      · rcases h4 with ⟨_, d2, _⟩ | ⟨d1, _⟩
        · rw [c1] at d2; cases d2
        · exact ⟨d1, by rw [hE, a3]; simp only [hf, lstR_fail]⟩
  · right
    have hf : (lstR intsR (fixedR s)).2 = failS := by
      rcases a2 with a2 | a2
      · rw [h0] at a2; cases a2
      · exact a2
    rcases h2 with ⟨_, b2, _⟩ | ⟨b1, _⟩
    · rw [a1] at b2; cases b2
    · rcases h3 with ⟨_, c2, _⟩ | ⟨c1, _⟩
      · rw [b1] at c2; cases c2
      · rcases h4 with ⟨_, d2, _⟩ | ⟨d1, _⟩
        · rw [c1] at d2; cases d2
        · exact ⟨d1, by rw [hE]; simp only [hf, lstR_fail]⟩
/-- Decode's answer by what the document's reader came to. -/
theorem dec_agree {b : By} {s4 : Rs} {q : Pg} (hm : ¬ MB < b.length) (h : (s4.bad = false ∧ pgR ⟨b, false⟩ = (q, s4)) ∨ (s4.bad = true ∧ (pgR ⟨b, false⟩).2 = failS)) :
    decP b = if s4.bad = true ∨ 0 < s4.rest.length then (pg0, 3) else if sndP q = true then (q, 0) else (pg0, 2) := by
  unfold decP
  rw [if_neg hm]
  rcases h with ⟨h1, h2⟩ | ⟨h1, h2⟩
  · rw [h2]
  · rw [if_pos (.inl (by rw [h2]; rfl)), if_pos (.inl h1)]
/-- No header: a fault. -/
theorem dec_nohead {b : By} (hm : ¬ MB < b.length) (h : (fixedR ⟨b, false⟩).bad = true) : decP b = (pg0, 3) := by
  have hf : fixedR ⟨b, false⟩ = failS := by
    rcases fixedR_less ⟨b, false⟩ with h1 | ⟨h1, _⟩
    · exact h1
    · rw [h1] at h; cases h
  unfold decP
  rw [if_neg hm, if_pos]
  left
  have hE : (pgR ⟨b, false⟩).2 = (lstR strR (lstR intsR (lstR fdR (lstR intsR (fixedR ⟨b, false⟩)).2).2).2).2 := by simp only [pgR]
  rw [hE, hf]
  simp only [lstR_fail]
  rfl
end Go.Proofs.Ytnkdlbiicfnmcaa

namespace Go.Proofs.Ytnkdlbiicfnmcaa
open Go.RowKit
theorem Fr.smr {A B : Nat} {w w' : World} {s : Rs} (F : Fr A w w') (L : Rd B A w s) : SmX [74] w w' := fun j c t f hj ht => by
  obtain ⟨_, v, hA, _⟩ := L
  refine F.block j (lt_of_block hj) (fun e => ?_)
  subst e
  rw [hA] at hj
  cases hj
  exact ht (by simp)
theorem Rd.drew {A B : Nat} {w : World} {s : Rs} (L : Rd B A w s) : Rd B A w.drew s := L.keep (fun _ _ => rfl) rfl
/-- What grows besides. -/
structure Gw (A pb N : Nat) (ts : List Nat) (w w' : World) : Prop where
  os : w'.os = w.os
  tape : w'.tape = w.tape
  output : w'.output = w.output
  size : w.heap.size ≤ w'.heap.size
  low : ∀ j, j < N → j ≠ A → j ≠ pb → w'.heap[j]? = w.heap[j]?
  sm : SmX ts w w'
theorem push_step {α : Type} {tb : TypeId} {T k bytes st r : Nat} {z : Value} {i0 : TypeInfo} {P : World → List Value → α → Prop} (hKP : KeepX [74, tb, T] P) (hu : Try.prog.underlying st = some (.slice T)) (hi : Try.prog.info? T = some i0) (hz0 : i0.zero = some z) (hz1 : i0.size = k) (hz2 : i0.bytes = bytes) (hzk : z.cells.size = k) (hk : 0 < k) (hby : bytes ≤ 1000)
    {A B pb N : Nat} {wr w3 : World} {s1 s3 : Rs} {v : Value} {l : List α} {x : α} {cs : List Value} {c : Array Value} (L1 : Rd B A wr s1) (L3 : Rd B A w3 s3) (F : Fr A wr w3) (hN : N ≤ wr.heap.size) (hAN : A < N) (hpN : pb < N) (hpA : pb ≠ A) (hBp : B ≤ pb) (hpb : wr.heap[pb]? = some (.cells c tb (0, 0))) (hc : c[r]? = some v) (R : RowP T k P N wr v l) (hcl : cs.length = k) (hone : ∀ u ∈ cs, u.oneCell' = true) (hx : P w3 cs x) (hlen : l.length ≤ 8000000) (ty : TypeId) :
    ∃ g cap w5, (Builtin.append_ #[st, st] ty #[v, .slice (some ⟨w3.heap.size, 0, none⟩) 1 1]).run Try.prog (w3.alloc (.cells cs.toArray T)) = .ok (.slice (some ⟨g, 0, none⟩) (l.length + 1) cap) w5 ∧ w5.cell? ⟨pb, r, none⟩ = some v ∧ w5.frozen? ⟨pb, r, none⟩ = false ∧ pb < w5.heap.size ∧
      Rd B A (w5.setCell ⟨pb, r, none⟩ (.slice (some ⟨g, 0, none⟩) (l.length + 1) cap)) s3 ∧ (w5.setCell ⟨pb, r, none⟩ (.slice (some ⟨g, 0, none⟩) (l.length + 1) cap)).heap[pb]? = some (.cells (c.setIfInBounds r (.slice (some ⟨g, 0, none⟩) (l.length + 1) cap)) tb (0, 0)) ∧
      RowP T k P N (w5.setCell ⟨pb, r, none⟩ (.slice (some ⟨g, 0, none⟩) (l.length + 1) cap)) (.slice (some ⟨g, 0, none⟩) (l.length + 1) cap) (l ++ [x]) ∧ Gw A pb N [74, tb, T] wr (w5.setCell ⟨pb, r, none⟩ (.slice (some ⟨g, 0, none⟩) (l.length + 1) cap)) := by
  have hs1 : SmX [74, tb, T] wr w3 := (F.smr L1).mono (fun t ht h => ht (by simp at h; simp [h]))
  have hB4 : Below w3.heap.size w3 (w3.alloc (.cells cs.toArray T)) := (Below.refl _ _).alloc (Nat.le_refl _) _
  have hs4 : SmX [74, tb, T] w3 (w3.alloc (.cells cs.toArray T)) := SmX.of_below hB4
  have hN3 : N ≤ w3.heap.size := Nat.le_trans hN F.size
  -- the row, two worlds on
  have R4 : RowP T k P N (w3.alloc (.cells cs.toArray T)) v l := by
    obtain ⟨xs, ho, hch⟩ := R
    have ho3 : w3.ownsRow N T k v l.length xs := ownsRow_keep ho fun q hq => F.block q (ho.lt q hq).2 (fun e => by have := (ho.lt q hq).1; omega)
    exact ⟨xs, ownsRow_keep ho3 fun q hq => hB4.block q (Nat.lt_of_lt_of_le (ho.lt q hq).2 F.size), (hch.keep hKP hs1).keep hKP hs4⟩
  have hKT : KeepX [T] P := fun w w' cs x h hp => hKP w w' cs x (h.mono (fun t ht h' => ht (by simp at h'; simp [h']))) hp
  obtain ⟨g, cap, w5, hrun, R5, hgr, hsm⟩ := RowP.push hKT hu hi hz0 hz1 hz2 hzk hk hby R4 (Nat.le_trans hN3 hB4.size) hcl hone (b := w3.heap.size) (heap_new _ _ rfl) (hKP _ _ _ _ hs4 hx) hlen ty
  have hown : ∀ q, v.ownBlock = some q → N ≤ q := fun q hq => by obtain ⟨xs, ho, _⟩ := R4; exact (ho.lt q hq).1
  have hk5 : ∀ j, j < N → w5.heap[j]? = w3.heap[j]? := fun j hj => by
    rw [hgr.block j (by have := hB4.size; omega) (fun e => by have := hown j e.symm; omega), hB4.block j (by omega)]
  have hp5 : w5.heap[pb]? = some (.cells c tb (0, 0)) := (hk5 pb hpN).trans ((F.block pb (by omega) hpA).trans hpb)
  have hsc : ∀ j, j ≠ pb → (w5.setCell ⟨pb, r, none⟩ (.slice (some ⟨g, 0, none⟩) (l.length + 1) cap)).heap[j]? = w5.heap[j]? := fun j hj => Below.heap_setCell w5 _ _ j hj
  have hs6 : SmX [74, tb, T] w5 (w5.setCell ⟨pb, r, none⟩ (.slice (some ⟨g, 0, none⟩) (l.length + 1) cap)) := fun j d t f hj ht => hsc j (fun e => by subst e; rw [hp5] at hj; cases hj; exact ht (by simp))
  have hBA := L3.1
  refine ⟨g, cap, w5, hrun, cell_of hp5 hc, by simp [World.frozen?, hp5], lt_of_block hp5, L3.keep (fun j hj => (hsc j (by omega)).trans (hk5 j (by omega))) ((hsc A (fun e => hpA e.symm)).trans (hk5 A hAN)), heap_setCell_same w5 pb r _ hp5, ?_, ?_⟩
  · obtain ⟨xs, ho, hch⟩ := R5
    refine ⟨xs, ownsRow_keep ho fun q hq => hsc q (fun e => ?_), hch.keep hKP hs6⟩
    have := (ho.lt q hq).1
    omega
  · refine ⟨hgr.os.trans (hB4.os.trans F.os), hgr.tape.trans (hB4.tape.trans F.tape), hgr.output.trans (hB4.output.trans F.output), by rw [World.size_setCell]; exact Nat.le_trans F.size (Nat.le_trans hB4.size hgr.size), fun j hj h1 h2 => ?_, ?_⟩
    · rw [hsc j h2, hk5 j hj]
      exact F.block j (by omega) h1
    · exact ((hs1.trans hs4).trans (hsm.mono (fun t ht h => ht (by simp at h; simp [h])))).trans hs6
end Go.Proofs.Ytnkdlbiicfnmcaa
