/- What every way goes through, as the document keeps it: rows of truths. -/
import Derived.Test.YtaejhppfcmeopaaLxR
import Derived.Test.YtaejhppfcmeopaaLxM
namespace Go.Proofs.Ytaejhppfcmeopaa
open Go.RowKit
theorem info_bools : (Try.prog.info? 47).map (fun i => (i.zero, i.size, i.bytes)) = some (some (.slice none 0 0), 1, 24) := by kernel_rfl
/-- What is come to without d, and what is come to. -/
def wB (bs : List Blk) (d x : Nat) : Bool := (arP (suc bs) d).testBit x && !(x == d)
def aB (bs : List Blk) (x : Nat) : Bool := decide (x ∈ ordP bs)
section
variable {bs : List Blk} {K : Nat}
theorem wB_iff (S : Snd bs K) (d x : Nat) : wB bs d x = true ↔ Av (goN bs) d x := by
  unfold wB
  rw [Bool.and_eq_true, arP_bit (fun t => suc_sm t) (go_bit S) d x]
  constructor
  · rintro ⟨h | h, h2⟩
    · simp [h] at h2
    · exact h
  · intro h; exact ⟨.inr h, by simpa using h.ne⟩
theorem aB_iff (S : Snd bs K) (h0 : bs ≠ []) (x : Nat) : aB bs x = true ↔ Cm (goN bs) x := by
  unfold aB
  rw [decide_eq_true_eq]
  exact (go_rpo S h0).m x
theorem av_all (S : Snd bs K) (h0 : bs ≠ []) (x : Nat) : Av (goN bs) bs.length x ↔ Cm (goN bs) x :=
  ⟨Av.cm, fun h => (cm_of bs.length h).resolve_right (fun h2 => by have := cm_lt S h0 h2; omega)⟩
theorem fun_of {F G : Nat → Bool} {P : Nat → Prop} (h1 : ∀ x, F x = true ↔ P x) (h2 : ∀ x, G x = true ↔ P x) : F = G := by
  funext x
  rw [Bool.eq_iff_iff, h1, h2]
/-- The document's Doms. -/
theorem ddV_dm (S : Snd bs K) (h0 : bs ≠ []) : ((List.range bs.length).map fun b => if b = 0 then -1 else ddV (aB bs) (wB bs) b bs.length) = dmP bs := by
  unfold dmP
  refine List.map_congr_left fun b _ => ?_
  by_cases e : b = 0
  · subst e
    rw [if_pos rfl, dmV_zero (go_rpo S h0) (sn_ok S)]
  · rw [if_neg e]
    exact dm_same (go_rpo S h0) (sn_ok S) (aB_iff S h0) (wB_iff S) (fun x hx => cm_lt S h0 hx) b
end
/-- The rows that are made, each with its truths. -/
structure On (w wr : World) (n : Nat) (vo : Value) (R : Nat → Nat → Bool) (m : Nat) : Prop where
  xs : ∃ gs : Nat → Nat, wr.ownsRow w.heap.size 47 1 vo m ((List.range m).map fun j => .slice (some ⟨gs j, 0, none⟩) n n) ∧ ∀ j, j < m → Tr1 wr (gs j) n (R j)
  b : Below w.heap.size w wr
section
variable {w wr w' : World} {n m : Nat} {vo : Value} {R : Nat → Nat → Bool}
theorem On.under (V : On w wr n vo R m) (h : Below wr.heap.size wr w') : On w w' n vo R m := by
  obtain ⟨⟨gs, h1, h2⟩, h3⟩ := V
  exact ⟨⟨gs, ownsRow_keep h1 (fun g hg => h.block g (h1.lt g hg).2), fun j hj => (h2 j hj).keep (h.block _ (h2 j hj).lt)⟩, h3.trans (h.mono h3.size)⟩
theorem On.new (w : World) (n : Nat) (R : Nat → Nat → Bool) : On w (w.alloc (.cells #[] 47)) n (.slice (some ⟨w.heap.size, 0, none⟩) 0 0) R 0 :=
  ⟨⟨fun _ => 0, ⟨rfl, .inr ⟨w.heap.size, 0, #[], rfl, Nat.le_refl _, heap_new _ _ rfl, Nat.le_refl _, by simp, rfl, rfl⟩⟩, fun j hj => absurd hj (Nat.not_lt_zero _)⟩, (Below.refl _ _).alloc (Nat.le_refl _) _⟩
theorem On.push (V : On w wr n vo R m) {g : Nat} (T : Tr1 wr g n (R m)) (hm : m ≤ 1000) : ∃ g2 cap w', (Builtin.append_ #[52, 52] 52 #[vo, .slice (some ⟨wr.heap.size, 0, none⟩) 1 1]).run Try.prog (wr.alloc (.cells #[.slice (some ⟨g, 0, none⟩) n n] 47)) = .ok (.slice (some ⟨g2, 0, none⟩) (m + 1) cap) w' ∧ On w w' n (.slice (some ⟨g2, 0, none⟩) (m + 1) cap) R (m + 1) := by
  have hB1 := (Below.refl wr.heap.size wr).alloc (Nat.le_refl _) (.cells #[.slice (some ⟨g, 0, none⟩) n n] 47)
  have U := V.under hB1
  have T1 := T.keep (hB1.block _ T.lt)
  obtain ⟨⟨gs, h1, h2⟩, h3⟩ := U
  obtain ⟨i0, hi, hz0, hz1, hz2⟩ := info_parts info_bools
  obtain ⟨g2, cap, w3, hr, hown, hgrow, _, _⟩ := run_append_lies (P := Try.prog) (wr.alloc (.cells #[.slice (some ⟨g, 0, none⟩) n n] 47)) 52 52 w.heap.size 47 i0 _ 1 24 Try.underlying52 hi hz0 hz1 hz2 rfl (by decide) vo m _ h1 ⟨wr.heap.size, 0, none⟩ 1 1 [.slice (some ⟨g, 0, none⟩) n n] rfl (World.news_of_block (heap_new wr (.cells #[.slice (some ⟨g, 0, none⟩) n n] 47) rfl))
    (by intro u hu; simp at hu; rcases hu with rfl; rfl) (by decide) (by unfold maxLen; omega) (by omega) (Nat.le_trans V.b.size hB1.size) _ rfl
  have hT : ∀ {k : Nat} {F : Nat → Bool}, Tr1 (wr.alloc (.cells #[.slice (some ⟨g, 0, none⟩) n n] 47)) k n F → Tr1 w3 k n F := fun {k F} hT => hT.keep (hgrow.block _ hT.lt fun e => by
    obtain ⟨arr, ha, _⟩ := hT.c
    rcases h1.2 with ⟨e2, _⟩ | ⟨g1, c1, cur, e2, _, hc, _⟩
    · rw [e2] at e; cases e
    · rw [e2] at e
      simp only [Value.ownBlock, Option.some.injEq] at e
      subst e
      rw [ha] at hc
      injection hc with hc
      injection hc with _ ht
      exact absurd ht (by decide))
  refine ⟨g2, cap, w3, hr, ⟨⟨fun j => if j = m then g else gs j, ?_, fun j hj => ?_⟩, ⟨hgrow.os.trans h3.os, hgrow.tape.trans h3.tape, hgrow.output.trans h3.output, Nat.le_trans h3.size hgrow.size, fun j hj => (hgrow.block j (Nat.lt_of_lt_of_le hj h3.size) (fun e => by have := (h1.lt j e.symm).1; omega)).trans (h3.block j hj)⟩⟩⟩
  · have e2 : ((List.range (m + 1)).map fun j => Value.slice (some ⟨if j = m then g else gs j, 0, none⟩) n n) = ((List.range m).map fun j => Value.slice (some ⟨gs j, 0, none⟩) n n) ++ [.slice (some ⟨g, 0, none⟩) n n] := by
      rw [List.range_succ, List.map_append]
      congr 1
      · refine List.map_congr_left fun j hj => ?_
        have := List.mem_range.mp hj
        rw [if_neg (by omega)]
      · simp
    rw [e2]
    exact hown
  · show Tr1 w3 (if j = m then g else gs j) n (R j)
    by_cases e : j = m
    · subst e; rw [if_pos rfl]; exact hT T1
    · rw [if_neg e]; exact hT (h2 j (by omega))
theorem On.cell (V : On w wr n vo R m) {j b : Nat} (hj : j < m) (hb : b < n) : ∃ g cap gj, vo = .slice (some ⟨g, 0, none⟩) m cap ∧ wr.cell? ⟨g, j, none⟩ = some (.slice (some ⟨gj, 0, none⟩) n n) ∧ wr.cell? ⟨gj, b, none⟩ = some (.bool (R j b)) ∧ g < wr.heap.size ∧ gj < wr.heap.size := by
  obtain ⟨⟨gs, h1, h2⟩, h3⟩ := V
  obtain ⟨g, cap, e, c, _, _⟩ := row_cell h1 (j := j) (u := .slice (some ⟨gs j, 0, none⟩) n n) (by simp [hj])
  exact ⟨g, cap, gs j, e, c, ((h2 j hj).cell hb).1, World.block_lt_of_cell? _ _ c, (h2 j hj).lt⟩
end
end Go.Proofs.Ytaejhppfcmeopaa
