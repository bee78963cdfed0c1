/- GcKeeps: its last loops. -/
import Derived.Test.YtfhaiopgnllknaaKpF
namespace Go.Proofs.Ytfhaiopgnllknaa
open Go.RowKit Go.Maps

theorem count_set : ∀ {S : List Bool} {i : Nat}, i < S.length → S.getD i false = false → (S.set i true).count true = S.count true + 1
  | [], i, h, _ => by simp at h
  | b :: S, 0, _, h => by
    have hb : b = false := h
    subst hb
    simp
  | b :: S, i + 1, h, hb => by
    have := count_set (S := S) (i := i) (by simpa using h) (by simpa using hb)
    rw [List.set_cons_succ, List.count_cons, List.count_cons, this]
    omega
theorem nats_snoc (l : List Nat) (n : Nat) : nats l ++ [(n : Int)] = nats (l ++ [n]) := by simp [nats]
theorem nats_app (l m : List Nat) : nats l ++ nats m = nats (l ++ m) := by simp [nats]
theorem nats_len (l : List Nat) : (nats l).length = l.length := by simp [nats]
/-- At the head of the loop of the roots. -/
structure J5 (W wr : World) (H gT gW gS n1 : Nat) (h : Hs) (wl : List Int) (va vk vl iv : Value) : Prop where
  ex : ∃ (i : Nat) (rs : List Nat) (l : List Int), i ≤ n1 ∧ i ≤ 5 ∧ iv = .int .i64 i ∧ rs.length = i ∧ l.length = i + 1 ∧ Rts l rs ∧ Jb W wr H gT gW gS h wl va vk vl (nats rs) l s0
theorem J5.new {W wr : World} {H gT gW gS n1 : Nat} {h : Hs} {wl : List Int} {va vk vl : Value} (J : Jb W wr H gT gW gS h wl va vk vl [] [0] s0) : J5 W wr H gT gW gS n1 h wl va vk vl (.int .i64 0) :=
  ⟨0, [], [0], Nat.zero_le _, by decide, rfl, rfl, rfl, rts_new, J⟩
/-- While the roots are followed. -/
structure J6 (W wr : World) (H gT gW gS : Nat) (h : Hs) (wl : List Int) (va vk vl : Value) (rs wk : List Nat) (l : List Int) (S : List Bool) (K : Nat) : Prop where
  J : Jb W wr H gT gW gS h wl va vk vl (nats wk) l S
  inv : LInv wl rs wk S
  meas : (20 - S.count true) * 7 + wk.length ≤ K
  le : K ≤ 145
/-- Behind the collections. -/
structure Jz (W wr : World) (H gT gW gS k : Nat) (h : Hs) (wl : List Int) (va vl : Value) (l : List Int) (S : List Bool) : Prop where
  ex : ∃ (vs : Nat → Value) (T : Nat → List Int), vs 20 = va ∧ T 20 = ats 20 ∧ vs 22 = vl ∧ T 22 = l ∧ Me W wr H h k [gS, gW, gT] vs T
  word : wr.heap[gW]? = some (.cells (ints wl).toArray 3 (0, 0))
  stays : wr.heap[gS]? = some (.cells (bools S).toArray 4 (0, 0))
section
variable {W wr w' : World} {H gT gW gS k : Nat} {h h' : Hs} {wl : List Int} {va vk vl : Value} {wk l : List Int} {S : List Bool}
theorem Jb.form (J : Jb W wr H gT gW gS h wl va vk vl wk l S) : ∃ ao cap, vk = .slice ao wk.length cap := by
  obtain ⟨vs, cur, _, rfl, _, M, _⟩ := J.ex
  have := (M.q 21).len
  rwa [T5_wk] at this
theorem Jb.z (J : Jb W wr H gT gW gS h wl va vk vl wk l S) : Jz W wr H gT gW gS 40 h wl va vl l S := by
  obtain ⟨vs, cur, h1, _, h3, M, _⟩ := J.ex
  exact ⟨⟨vs, _, h1, T5_at wl wk l, h3, T5_l wl wk l, M⟩, J.word, J.stays⟩
theorem Jz.addr (J : Jz W wr H gT gW gS k h wl va vl l S) {g off cap j : Nat} (hv : va = .slice (some ⟨g, off, none⟩) 20 cap) (hj : j < 20) : wr.cell? ⟨g, off + j, none⟩ = some (.int .i64 ((6 * j + 1 : Nat) : Int)) := by
  obtain ⟨vs, T, h1, h2, _, _, M⟩ := J.ex
  exact M.addr h2 (h1.trans hv) hj
theorem Jz.bel (J : Jz W wr H gT gW gS k h wl va vl l S) : Below W.heap.size W wr := by
  obtain ⟨vs, T, _, _, _, _, M⟩ := J.ex
  exact M.bel
theorem Jz.lists (J : Jz W wr H gT gW gS k h wl va vl l S) (hl : ∀ x ∈ l, x ≤ 9223372036854775807) : IntsAt wr vl l := by
  obtain ⟨vs, T, _, _, h3, h4, M⟩ := J.ex
  have := (M.q 22).ints (by rw [h4]; exact hl)
  rwa [h3, h4] at this
theorem jz_collect (J : Jz W wr H gT gW gS k h wl va vl l S) (hl : ∀ x ∈ l, x ≤ 9223372036854775807) (hll : l.length ≤ 2000000) (hk : k ≤ 900000000) (hn : ∀ x ∈ l, namesB h x = true) :
    Calls Try.prog 19 #[hptr H, vl] wr fun e w' => ∃ F, Hid (∀ a, F a = true ↔ Reach h l a) ∧ e = two ((gone h F).length, 0) ∧ Hid (Jz W w' H gT gW gS (k + 65536) (freeAll h (gone h F)) wl va vl l S) := by
  have R := J.lists hl
  obtain ⟨vs, T, h1, h2, h3, h4, M⟩ := J.ex
  refine (me_collect M R hll hk hn).mono ?_
  rintro e w' ⟨F, hF, he, hM⟩
  exact ⟨F, hF, he, ⟨⟨vs, T, h1, h2, h3, h4, hM.out.1⟩, (hM.out.2 gW (by simp)).trans J.word, (hM.out.2 gS (by simp)).trans J.stays⟩⟩
theorem jz_live (J : Jz W wr H gT gW gS k h wl va vl l S) (hk : k ≤ 1000000000) {n : Nat} (hn : (liveL h.s.ps).length = n) :
    Calls Try.prog 22 #[hptr H] wr fun e w' => ∃ ao cap, e = .returned (.slice ao n cap) ∧ Hid (Jz W w' H gT gW gS k h wl va vl l S) := by
  obtain ⟨vs, T, h1, h2, h3, h4, M⟩ := J.ex
  refine (me_live M hk).mono ?_
  rintro e w' ⟨ao, cap, he, hM⟩
  rw [hn] at he
  exact ⟨ao, cap, he, ⟨⟨vs, T, h1, h2, h3, h4, hM.out.1⟩, (hM.out.2 gW (by simp)).trans J.word, (hM.out.2 gS (by simp)).trans J.stays⟩⟩
theorem jz_get (J : Jz W wr H gT gW gS k h wl va vl l S) {x : Int} (hx : x ≤ 9223372036854775807) {r : Int × Int} (hr : getHP h x = r) :
    Calls Try.prog 13 #[hptr H, .int .i64 x] wr fun e w' => e = two r ∧ Hid (Jz W w' H gT gW gS k h wl va vl l S) := by
  obtain ⟨vs, T, h1, h2, h3, h4, M⟩ := J.ex
  refine (me_get M hx hr).mono ?_
  rintro e w' ⟨he, hM⟩
  exact ⟨he, ⟨⟨vs, T, h1, h2, h3, h4, hM.out.1⟩, (hM.out.2 gW (by simp)).trans J.word, (hM.out.2 gS (by simp)).trans J.stays⟩⟩
end
theorem Rts.le {l : List Int} {rs : List Nat} (R : Rts l rs) : ∀ x ∈ l, x ≤ 9223372036854775807 := by
  intro x hx
  rcases R.fwd x hx with e | ⟨i, k, h1, h2, e⟩
  · omega
  · have := R.lt i h1; omega
end Go.Proofs.Ytfhaiopgnllknaa
