/- The document's Decode: its state, and how its lists grow. -/
import Derived.Test.YtnkdlbiicfnmcaaCdHpJt
namespace Go.Proofs.Ytnkdlbiicfnmcaa
open Go.RowKit
theorem Agn.agl {α : Type} {it : Rs → α × Rs} {s s' : Rs} {x : α} (h : Agn it s x s') : Agl it s x s' := by
  rcases h with h | ⟨h1, _, h2⟩
  · exact .inl h
  · exact .inr ⟨h1, h2⟩
theorem Agl.two {α β : Type} {f : Rs → α × Rs} {g : Rs → β × Rs} {s s1 s2 : Rs} {x : α} {y : β} (h1 : Agl f s x s1) (h2 : Agl g s1 y s2) (hg : (g failS).2 = failS) : Agl (fun s => (((f s).1, (g (f s).2).1), (g (f s).2).2)) s (x, y) s2 := by
  rcases h1 with ⟨a1, a2, a3⟩ | ⟨a1, a2⟩
  · rcases h2 with ⟨b1, b2, b3⟩ | ⟨b1, b2⟩
    · exact .inl ⟨b1, a2, by simp only [a3, b3]⟩
    · right
      refine ⟨b1, .inr ?_⟩
      rcases b2 with b2 | b2
      · rw [a1] at b2; cases b2
      · simp only [a3]; exact b2
  · right
    rcases h2 with ⟨b1, b2, _⟩ | ⟨b1, _⟩
    · rw [a1] at b2; cases b2
    · refine ⟨b1, ?_⟩
      rcases a2 with a2 | a2
      · exact .inl a2
      · right; simp only [a2]; exact hg
theorem Agl.map {α β : Type} {f : Rs → α × Rs} {s s' : Rs} {x : α} (m : α → β) (h : Agl f s x s') : Agl (fun s => (m (f s).1, (f s).2)) s (m x) s' := by
  rcases h with ⟨a1, a2, a3⟩ | ⟨a1, a2⟩
  · exact .inl ⟨a1, a2, by simp only [a3]⟩
  · exact .inr ⟨a1, a2⟩
theorem Agl.eq {α : Type} {f g : Rs → α × Rs} {s s' : Rs} {x : α} (h : Agl f s x s') (e : f s = g s) : Agl g s x s' := by
  unfold Agl at h ⊢
  rw [e] at h
  exact h
theorem agl_ins {s s1 s2 s3 : Rs} {o a b : Int} (h1 : Agl numR s o s1) (h2 : Agl numR s1 a s2) (h3 : Agl numR s2 b s3) : Agl insR s ⟨o, a, b⟩ s3 := by
  have h := ((h1.two h2 numR_fail).two h3 numR_fail).map (fun t => (⟨t.1.1, t.1.2, t.2⟩ : In3))
  exact h.eq (by simp only [insR])
theorem agl_fd {s s1 s2 s3 s4 s5 : Rs} {pa : Int} {lo re ar : List Int} {co : List In3} (h1 : Agl numR s pa s1) (h2 : Agl intsR s1 lo s2) (h3 : Agl intsR s2 re s3) (h4 : Agl intsR s3 ar s4) (h5 : Agl (lstR insR) s4 co s5) : Agl fdR s ⟨pa, lo, re, ar, co⟩ s5 := by
  have e : (intsR failS).2 = failS := lstR_fail numR
  have h := ((((h1.two h2 e).two h3 e).two h4 e).two h5 (lstR_fail insR)).map (fun t => (⟨t.1.1.1.1, t.1.1.1.2, t.1.1.2, t.1.2, t.2⟩ : Fd))
  exact h.eq (by simp only [fdR])
/-- A loop that has read l. -/
def LpA {α : Type} (it : Rs → α × Rs) (n : Nat) (s0 : Rs) (l : List α) (s1 : Rs) : Prop :=
  (s1.bad = false ∧ s0.bad = false ∧ (l ++ (loopR it (n - l.length) s1).1, (loopR it (n - l.length) s1).2) = loopR it n s0) ∨ (s1.bad = true ∧ (s0.bad = true ∨ (loopR it n s0).2 = failS))
/-- What count came to. -/
def CntA (s : Rs) (n : Nat) (s' : Rs) : Prop := (s'.bad = false ∧ s.bad = false ∧ cntR s = (n, s') ∧ n ≤ s'.rest.length) ∨ (s'.bad = true ∧ n = 0 ∧ (s.bad = true ∨ (cntR s).2 = failS ∨ ((cntR s).2.bad = false ∧ (cntR s).2.rest.length < (cntR s).1)))
theorem LpA.start {α : Type} (it : Rs → α × Rs) (n : Nat) (s0 : Rs) : LpA it n s0 [] s0 := by
  cases hb : s0.bad with
  | false => exact .inl ⟨hb, hb, by simp⟩
  | true => exact .inr ⟨hb, .inl hb⟩
theorem LpA.next {α : Type} {it : Rs → α × Rs} {n : Nat} {s0 s1 s2 : Rs} {l : List α} {x : α} (h : LpA it n s0 l s1) (hb : s1.bad = false) (hlt : l.length < n) (hx : Agl it s1 x s2) : LpA it n s0 (l ++ [x]) s2 := by
  rcases h with ⟨_, g2, g3⟩ | ⟨g1, _⟩
  · rw [show n - l.length = n - (l.length + 1) + 1 by omega, loopR_next it hb] at g3
    rcases hx with ⟨h1, _, h3⟩ | ⟨h1, h3⟩
    · left
      refine ⟨h1, g2, ?_⟩
      rw [h3] at g3
      rw [List.length_append, List.length_singleton, List.append_assoc]
      exact g3
    · right
      refine ⟨h1, .inr ?_⟩
      rcases h3 with h3 | h3
      · rw [hb] at h3; cases h3
      · rw [← g3]
        simp only [h3]
        cases (n - (l.length + 1)) <;> rfl
  · rw [hb] at g1; cases g1
theorem LpA.fin {α : Type} {it : Rs → α × Rs} (hE : Eats it) {n : Nat} {s s1 s2 : Rs} {l : List α} (hc : CntA s n s1) (h : LpA it n s1 l s2) (hfin : s2.bad = true ∨ n ≤ l.length) : Agl (lstR it) s l s2 := by
  have hI : lstR it s = loopR it (cntR s).1 (cntR s).2 := rfl
  rcases h with ⟨g1, g2, g3⟩ | ⟨g1, g2⟩
  · rcases hfin with h | h
    · rw [g1] at h; cases h
    · rcases hc with ⟨_, k2, k3, _⟩ | ⟨k1, _⟩
      · left
        refine ⟨g1, k2, ?_⟩
        rw [hI, k3, ← g3, show n - l.length = 0 by omega]
        simp [loopR]
      · rw [g2] at k1; cases k1
  · right
    refine ⟨g1, ?_⟩
    rcases hc with ⟨k1, _, k3, _⟩ | ⟨_, _, k3⟩
    · right
      rcases g2 with g2 | g2
      · rw [k1] at g2; cases g2
      · rw [hI, k3]; exact g2
    · rcases k3 with k3 | k3 | ⟨k3, k4⟩
      · exact .inl k3
      · right
        rw [hI, k3, loopR_bad it _ rfl]
      · right
        rw [hI]
        exact loop_short hE _ _ k3 k4
/-- A string: count, and so many bytes. -/
theorem CntA.str {s s1 : Rs} {n : Nat} (h : CntA s n s1) : n ≤ s1.rest.length ∧ Agl strR s (s1.rest.take n) ⟨s1.rest.drop n, s1.bad⟩ := by
  have hI : strR s = takeR (cntR s).1 (cntR s).2 := rfl
  rcases h with ⟨h1, h2, h3, h4⟩ | ⟨h1, h2, h3⟩
  · refine ⟨h4, .inl ⟨h1, h2, ?_⟩⟩
    rw [hI, h3]
    show takeR n s1 = _
    unfold takeR
    rw [if_neg (by omega)]
  · subst h2
    refine ⟨Nat.zero_le _, .inr ⟨h1, ?_⟩⟩
    rcases h3 with h3 | h3 | ⟨_, h4⟩
    · exact .inl h3
    · right
      rw [hI, h3]
      unfold takeR
      split
      · rfl
      · simp [failS]
    · right
      rw [hI]
      unfold takeR
      rw [if_pos h4]
section
/-- Where things lie. -/
structure Geo (B rb A pb N : Nat) (w : World) : Prop where
  r : w.heap.size = rb
  b : B ≤ rb
  a : A = rb + 1
  p : pb = rb + 2
  n : N = rb + 3
/-- Decode's state: the four lists so far, and the reader. -/
structure DS (B rb A pb N : Nat) (w : World) (l1 : List (List Int)) (l2 : List Fd) (l3 : List (List Int)) (l4 : List By) (s : Rs) (wr : World) : Prop where
  rd : Rd B A wr s
  rl : s.rest.length ≤ MB
  p : ∃ v1 v2 v3 v4, wr.heap[pb]? = some (.cells #[v1, v2, v3, v4] 27 (0, 0)) ∧ RowP 55 1 RLst N wr v1 l1 ∧ RowP 58 5 RFd N wr v2 l2 ∧ RowP 53 1 RLst N wr v3 l3 ∧ RowP 9 1 StrP N wr v4 l4
  rb : wr.heap[rb]? = some (.cells #[.slice none 0 0, .slice none 0 0, .slice none 0 0, .slice none 0 0] 27 (0, 0))
  fr : Below w.heap.size w wr
  sz : N ≤ wr.heap.size
variable {B rb A pb N : Nat} {w wr w3 : World} {l1 l3 : List (List Int)} {l2 : List Fd} {l4 : List By} {s s1 s3 : Rs}
theorem DS.heap (S : DS B rb A pb N w l1 l2 l3 l4 s wr) {W : World} (h : W.heap = wr.heap) (h1 : W.os = wr.os) (h2 : W.tape = wr.tape) (h3 : W.output = wr.output) : DS B rb A pb N w l1 l2 l3 l4 s W := by
  obtain ⟨v1, v2, v3, v4, e, R1, R2, R3, R4⟩ := S.p
  have hs : SmX [] wr W := fun j c t f hj _ => by rw [h]
  exact ⟨S.rd.keep (fun _ _ => by rw [h]) (by rw [h]), S.rl, ⟨v1, v2, v3, v4, by rw [h]; exact e, R1.keep (rlst_keep (by simp)) (by simp) hs, R2.keep (rfd_keep (by simp) (by simp)) (by simp) hs, R3.keep (rlst_keep (by simp)) (by simp) hs, R4.keep (str_keep _) (by simp) hs⟩, by rw [h]; exact S.rb, ⟨h1.trans S.fr.os, h2.trans S.fr.tape, h3.trans S.fr.output, by rw [h]; exact S.fr.size, fun j hj => by rw [h]; exact S.fr.block j hj⟩, by rw [h]; exact S.sz⟩
theorem DS.drew (S : DS B rb A pb N w l1 l2 l3 l4 s wr) : DS B rb A pb N w l1 l2 l3 l4 s wr.drew := S.heap rfl rfl rfl rfl
/-- The reader goes on. -/
theorem DS.go (S : DS B rb A pb N w l1 l2 l3 l4 s wr) (G : Geo B rb A pb N w) (F : Fr A wr w3) (L : Rd B A w3 s3) (hle : s3.rest.length ≤ s.rest.length) : DS B rb A pb N w l1 l2 l3 l4 s3 w3 := by
  obtain ⟨v1, v2, v3, v4, e, R1, R2, R3, R4⟩ := S.p
  have hs := F.smr S.rd
  have h1 := G.r; have h2 := G.b; have h3 := G.a; have h4 := G.p; have h5 := G.n
  refine ⟨L, Nat.le_trans hle S.rl, ⟨v1, v2, v3, v4, (F.block pb (lt_of_block e) (by omega)).trans e, R1.keep (rlst_keep (by decide)) (by decide) hs, R2.keep (rfd_keep (by decide) (by decide)) (by decide) hs, R3.keep (rlst_keep (by decide)) (by decide) hs, R4.keep (str_keep _) (by decide) hs⟩, (F.block rb (lt_of_block S.rb) (by omega)).trans S.rb, ⟨F.os.trans S.fr.os, F.tape.trans S.fr.tape, F.output.trans S.fr.output, Nat.le_trans S.fr.size F.size, fun j hj => (F.block j (Nat.lt_of_lt_of_le hj S.fr.size) (by omega)).trans (S.fr.block j hj)⟩, Nat.le_trans S.sz F.size⟩
/-- One more: types. -/
theorem DS.push1 (S : DS B rb A pb N w l1 l2 l3 l4 s wr) (G : Geo B rb A pb N w) {v1 v2 v3 v4 : Value} (e : wr.heap[pb]? = some (.cells #[v1, v2, v3, v4] 27 (0, 0))) (F : Fr A wr w3) (L : Rd B A w3 s3) (hle : s3.rest.length ≤ MB) {cs : List Value} {x : List Int} (hcl : cs.length = 1) (hone : ∀ u ∈ cs, u.oneCell' = true) (hx : RLst w3 cs x) (hlen : l1.length ≤ 8000000) (ty : TypeId) :
    ∃ g cap w5, (Builtin.append_ #[22, 22] ty #[v1, .slice (some ⟨w3.heap.size, 0, none⟩) 1 1]).run Try.prog (w3.alloc (.cells cs.toArray 55)) = .ok (.slice (some ⟨g, 0, none⟩) (l1.length + 1) cap) w5 ∧ w5.cell? ⟨pb, 0, none⟩ = some v1 ∧ w5.frozen? ⟨pb, 0, none⟩ = false ∧ pb < w5.heap.size ∧
      DS B rb A pb N w (l1 ++ [x]) l2 l3 l4 s3 (w5.setCell ⟨pb, 0, none⟩ (.slice (some ⟨g, 0, none⟩) (l1.length + 1) cap)) := by
  obtain ⟨u1, u2, u3, u4, e', R1, R2, R3, R4⟩ := S.p
  rw [e] at e'
  cases e'
  have h1 := G.r; have h2 := G.b; have h3 := G.a; have h4 := G.p; have h5 := G.n
  obtain ⟨i0, hi, hz0, hz1, hz2⟩ := info_parts Try.info55
  obtain ⟨g, cap, w5, hrun, k0, k1, k2, L5, e5, R5, GW⟩ := push_step (r := 0) (T := 55) (k := 1) (P := RLst) (x := x) (rlst_keep (by decide)) Try.underlying22 hi hz0 hz1 hz2 rfl (by decide) (by decide) S.rd L F S.sz (by omega) (by omega) (by omega) (by omega) e rfl R1 hcl hone hx hlen ty
  refine ⟨g, cap, w5, hrun, k0, k1, k2, L5, hle, ⟨_, _, _, _, e5, R5, R2.keep (rfd_keep (by decide) (by decide)) (by decide) GW.sm, R3.keep (rlst_keep (by decide)) (by decide) GW.sm, R4.keep (str_keep _) (by decide) GW.sm⟩, (GW.low rb (by omega) (by omega) (by omega)).trans S.rb, ⟨GW.os.trans S.fr.os, GW.tape.trans S.fr.tape, GW.output.trans S.fr.output, Nat.le_trans S.fr.size GW.size, fun j hj => (GW.low j (by omega) (by omega) (by omega)).trans (S.fr.block j hj)⟩, Nat.le_trans S.sz GW.size⟩
/-- One more: functions. -/
theorem DS.push2 (S : DS B rb A pb N w l1 l2 l3 l4 s wr) (G : Geo B rb A pb N w) {v1 v2 v3 v4 : Value} (e : wr.heap[pb]? = some (.cells #[v1, v2, v3, v4] 27 (0, 0))) (F : Fr A wr w3) (L : Rd B A w3 s3) (hle : s3.rest.length ≤ MB) {cs : List Value} {x : Fd} (hcl : cs.length = 5) (hone : ∀ u ∈ cs, u.oneCell' = true) (hx : RFd w3 cs x) (hlen : l2.length ≤ 8000000) (ty : TypeId) :
    ∃ g cap w5, (Builtin.append_ #[23, 23] ty #[v2, .slice (some ⟨w3.heap.size, 0, none⟩) 1 1]).run Try.prog (w3.alloc (.cells cs.toArray 58)) = .ok (.slice (some ⟨g, 0, none⟩) (l2.length + 1) cap) w5 ∧ w5.cell? ⟨pb, 1, none⟩ = some v2 ∧ w5.frozen? ⟨pb, 1, none⟩ = false ∧ pb < w5.heap.size ∧
      DS B rb A pb N w l1 (l2 ++ [x]) l3 l4 s3 (w5.setCell ⟨pb, 1, none⟩ (.slice (some ⟨g, 0, none⟩) (l2.length + 1) cap)) := by
  obtain ⟨u1, u2, u3, u4, e', R1, R2, R3, R4⟩ := S.p
  rw [e] at e'
  cases e'
  have h1 := G.r; have h2 := G.b; have h3 := G.a; have h4 := G.p; have h5 := G.n
  obtain ⟨i0, hi, hz0, hz1, hz2⟩ := info_parts Try.info58
  obtain ⟨g, cap, w5, hrun, k0, k1, k2, L5, e5, R5, GW⟩ := push_step (r := 1) (T := 58) (k := 5) (P := RFd) (x := x) (rfd_keep (by decide) (by decide)) Try.underlying23 hi hz0 hz1 hz2 rfl (by decide) (by decide) S.rd L F S.sz (by omega) (by omega) (by omega) (by omega) e rfl R2 hcl hone hx hlen ty
  refine ⟨g, cap, w5, hrun, k0, k1, k2, L5, hle, ⟨_, _, _, _, e5, R1.keep (rlst_keep (by decide)) (by decide) GW.sm, R5, R3.keep (rlst_keep (by decide)) (by decide) GW.sm, R4.keep (str_keep _) (by decide) GW.sm⟩, (GW.low rb (by omega) (by omega) (by omega)).trans S.rb, ⟨GW.os.trans S.fr.os, GW.tape.trans S.fr.tape, GW.output.trans S.fr.output, Nat.le_trans S.fr.size GW.size, fun j hj => (GW.low j (by omega) (by omega) (by omega)).trans (S.fr.block j hj)⟩, Nat.le_trans S.sz GW.size⟩
/-- One more: tables. -/
theorem DS.push3 (S : DS B rb A pb N w l1 l2 l3 l4 s wr) (G : Geo B rb A pb N w) {v1 v2 v3 v4 : Value} (e : wr.heap[pb]? = some (.cells #[v1, v2, v3, v4] 27 (0, 0))) (F : Fr A wr w3) (L : Rd B A w3 s3) (hle : s3.rest.length ≤ MB) {cs : List Value} {x : List Int} (hcl : cs.length = 1) (hone : ∀ u ∈ cs, u.oneCell' = true) (hx : RLst w3 cs x) (hlen : l3.length ≤ 8000000) (ty : TypeId) :
    ∃ g cap w5, (Builtin.append_ #[24, 24] ty #[v3, .slice (some ⟨w3.heap.size, 0, none⟩) 1 1]).run Try.prog (w3.alloc (.cells cs.toArray 53)) = .ok (.slice (some ⟨g, 0, none⟩) (l3.length + 1) cap) w5 ∧ w5.cell? ⟨pb, 2, none⟩ = some v3 ∧ w5.frozen? ⟨pb, 2, none⟩ = false ∧ pb < w5.heap.size ∧
      DS B rb A pb N w l1 l2 (l3 ++ [x]) l4 s3 (w5.setCell ⟨pb, 2, none⟩ (.slice (some ⟨g, 0, none⟩) (l3.length + 1) cap)) := by
  obtain ⟨u1, u2, u3, u4, e', R1, R2, R3, R4⟩ := S.p
  rw [e] at e'
  cases e'
  have h1 := G.r; have h2 := G.b; have h3 := G.a; have h4 := G.p; have h5 := G.n
  obtain ⟨i0, hi, hz0, hz1, hz2⟩ := info_parts Try.info53
  obtain ⟨g, cap, w5, hrun, k0, k1, k2, L5, e5, R5, GW⟩ := push_step (r := 2) (T := 53) (k := 1) (P := RLst) (x := x) (rlst_keep (by decide)) Try.underlying24 hi hz0 hz1 hz2 rfl (by decide) (by decide) S.rd L F S.sz (by omega) (by omega) (by omega) (by omega) e rfl R3 hcl hone hx hlen ty
  refine ⟨g, cap, w5, hrun, k0, k1, k2, L5, hle, ⟨_, _, _, _, e5, R1.keep (rlst_keep (by decide)) (by decide) GW.sm, R2.keep (rfd_keep (by decide) (by decide)) (by decide) GW.sm, R5, R4.keep (str_keep _) (by decide) GW.sm⟩, (GW.low rb (by omega) (by omega) (by omega)).trans S.rb, ⟨GW.os.trans S.fr.os, GW.tape.trans S.fr.tape, GW.output.trans S.fr.output, Nat.le_trans S.fr.size GW.size, fun j hj => (GW.low j (by omega) (by omega) (by omega)).trans (S.fr.block j hj)⟩, Nat.le_trans S.sz GW.size⟩
/-- One more: texts. -/
theorem DS.push4 (S : DS B rb A pb N w l1 l2 l3 l4 s wr) (G : Geo B rb A pb N w) {v1 v2 v3 v4 : Value} (e : wr.heap[pb]? = some (.cells #[v1, v2, v3, v4] 27 (0, 0))) (F : Fr A wr w3) (L : Rd B A w3 s3) (hle : s3.rest.length ≤ MB) {cs : List Value} {x : By} (hcl : cs.length = 1) (hone : ∀ u ∈ cs, u.oneCell' = true) (hx : StrP w3 cs x) (hlen : l4.length ≤ 8000000) (ty : TypeId) :
    ∃ g cap w5, (Builtin.append_ #[25, 25] ty #[v4, .slice (some ⟨w3.heap.size, 0, none⟩) 1 1]).run Try.prog (w3.alloc (.cells cs.toArray 9)) = .ok (.slice (some ⟨g, 0, none⟩) (l4.length + 1) cap) w5 ∧ w5.cell? ⟨pb, 3, none⟩ = some v4 ∧ w5.frozen? ⟨pb, 3, none⟩ = false ∧ pb < w5.heap.size ∧
      DS B rb A pb N w l1 l2 l3 (l4 ++ [x]) s3 (w5.setCell ⟨pb, 3, none⟩ (.slice (some ⟨g, 0, none⟩) (l4.length + 1) cap)) := by
  obtain ⟨u1, u2, u3, u4, e', R1, R2, R3, R4⟩ := S.p
  rw [e] at e'
  cases e'
  have h1 := G.r; have h2 := G.b; have h3 := G.a; have h4 := G.p; have h5 := G.n
  obtain ⟨i0, hi, hz0, hz1, hz2⟩ := info_parts Try.info9
  obtain ⟨g, cap, w5, hrun, k0, k1, k2, L5, e5, R5, GW⟩ := push_step (r := 3) (T := 9) (k := 1) (P := StrP) (x := x) (str_keep _) Try.underlying25 hi hz0 hz1 hz2 rfl (by decide) (by decide) S.rd L F S.sz (by omega) (by omega) (by omega) (by omega) e rfl R4 hcl hone hx hlen ty
  refine ⟨g, cap, w5, hrun, k0, k1, k2, L5, hle, ⟨_, _, _, _, e5, R1.keep (rlst_keep (by decide)) (by decide) GW.sm, R2.keep (rfd_keep (by decide) (by decide)) (by decide) GW.sm, R3.keep (rlst_keep (by decide)) (by decide) GW.sm, R5⟩, (GW.low rb (by omega) (by omega) (by omega)).trans S.rb, ⟨GW.os.trans S.fr.os, GW.tape.trans S.fr.tape, GW.output.trans S.fr.output, Nat.le_trans S.fr.size GW.size, fun j hj => (GW.low j (by omega) (by omega) (by omega)).trans (S.fr.block j hj)⟩, Nat.le_trans S.sz GW.size⟩
end
end Go.Proofs.Ytnkdlbiicfnmcaa
