/- ParseJoins. -/
import Derived.Test.YtnkphlkjhgngkaaGreatDoorLawLJo
import Derived.Test.YtnkphlkjhgngkaaGreatDoorScJJo
import Derived.Deep.RegionLaw
namespace Go.Proofs.YtnkphlkjhgngkaaGreatDoor
open Go.RowKit
attribute [local go_sem ↓] Go.wp_at_zero Go.wp_at_succ

def zeroTr : Tr := .mk 0 [] 0 []
/-- Parse's answers, as they are handed back. -/
def parseQ (l : List UInt8) : Tr × Nat × Int := match parseP l with
  | (some t, a, er) => (t, a, er)
  | (none, a, er) => (zeroTr, a, er)
theorem parseQ_any (s : ByteArray) (hs : s.size ≤ maxLen) (w : World) (hG : Gl w) : Calls Tryz.prog 8 #[.string s] w fun e w' => Below w.heap.size w w' ∧ ∃ ao c, e = .returned (.tuple #[tv (parseQ s.data.toList).1 (.slice ao (parseQ s.data.toList).1.kids.length c), .int .i64 (parseQ s.data.toList).2.1, .int .i64 (parseQ s.data.toList).2.2]) ∧ KT w' (Rg w.heap.size w'.heap.size) (parseQ s.data.toList).1 (.slice ao (parseQ s.data.toList).1.kids.length c) := by
  refine (parse_any s hs w hG).mono ?_
  intro e w' h
  unfold parseQ
  generalize parseP s.data.toList = r at *
  obtain ⟨h1, h2⟩ := h
  refine ⟨h1, ?_⟩
  obtain ⟨o, a, er⟩ := r
  cases o with
  | none => exact ⟨none, 0, h2, by simp only [zeroTr, KT]; exact ⟨[], .inl ⟨rfl, none, 0, rfl⟩, by simp [KL]⟩⟩
  | some t =>
    obtain ⟨sl, he, hk⟩ := h2
    obtain ⟨ao, c, rfl⟩ := (Lst.kids hk).slice
    exact ⟨ao, c, he, hk⟩
theorem parseP_none {l : List UInt8} {a : Nat} {er : Int} (h : parseP l = (none, a, er)) : er ≠ 0 := by
  unfold parseP at h
  split at h
  · rename_i h0
    injection h with _ h; injection h with _ h; rw [← h]; exact h0
  · cases hT : treeR ((scanRes l).1 ++ [(4, [], 0, l.length)]) with
    | bad j => rw [hT] at h; injection h with _ h; injection h with _ h; rw [← h]; decide
    | ok u j =>
      rw [hT] at h
      simp only at h
      split at h
      · cases h
      · injection h with _ h; injection h with _ h; rw [← h]; decide
theorem parseQ_ok {l : List UInt8} (h : (parseQ l).2.2 = 0) : parseP l = (some (parseQ l).1, 0, 0) := by
  unfold parseQ at h ⊢
  cases hp : parseP l with
  | mk o r =>
    obtain ⟨a, er⟩ := r
    rw [hp] at h
    cases o with
    | none => exact absurd h (parseP_none hp)
    | some t =>
      obtain ⟨_, _, h1, h2, _⟩ := parseP_some hp
      subst h1 h2; rfl

theorem run_append_empty {W : World} {B : Nat} {v : Value} {n : Nat} {xs : List Value} (ty : TypeId) (c : Nat) (ho : W.ownsRow B 24 4 v n xs) : (Builtin.append_ #[22, 22] ty #[v, .slice none 0 c]).run Tryz.prog W = .ok v W := by
  obtain ⟨i0, hi, _⟩ := info_parts Tryz.info24
  rcases ho.2 with ⟨rfl, rfl⟩ | ⟨g, cap, cur, rfl, _, _, hnc, _⟩
  · simp [Builtin.append_, run_underlying Tryz.underlying22, sizeOf, typeInfo, hi, Builtin.lenOf, Builtin.firstCells]
  · simp [Builtin.append_, run_underlying Tryz.underlying22, sizeOf, typeInfo, hi, Builtin.lenOf, Builtin.firstCells, hnc, storeCells]
/-- A list of the call's own, of trees that lie in blocks of Z. -/
def OwnZ (Z : Nat → Prop) (W : World) (B : Nat) (v : Value) (ts : List Tr) : Prop := ∃ sls, W.ownsRow B 24 4 v ts.length (cellsOf ts sls) ∧ KL W Z ts sls
theorem run_apd {W : World} {B : Nat} {v1 sl : Value} {ts us : List Tr} {Z : Nat → Prop} (ty : TypeId) (h1 : OwnZ Z W B v1 ts) (h2 : Lst W Z us sl) (hZ : ∀ b, Z b → b < B) (hB : B ≤ W.heap.size) (hlen : ts.length + us.length ≤ 1000000) :
    ∃ ao cap w', (Builtin.append_ #[22, 22] ty #[v1, sl]).run Tryz.prog W = .ok (.slice ao (ts.length + us.length) cap) w' ∧ OwnZ Z w' B (.slice ao (ts.length + us.length) cap) (ts ++ us) ∧ Below B W w' ∧ W.grownBy w' v1.ownBlock ∧ ((Value.slice ao (ts.length + us.length) cap).ownBlock = v1.ownBlock ∨ (Value.slice ao (ts.length + us.length) cap).ownBlock = some W.heap.size) := by
  obtain ⟨sls, o1, k1⟩ := h1
  obtain ⟨sls2, r2, k2⟩ := h2
  obtain ⟨i0, hi, hz0, hz1, hz2⟩ := info_parts Tryz.info24
  have key : ∃ v' w', (Builtin.append_ #[22, 22] ty #[v1, sl]).run Tryz.prog W = .ok v' w' ∧ w'.ownsRow B 24 4 v' (ts.length + us.length) (cellsOf ts sls ++ cellsOf us sls2) ∧ W.grownBy w' v1.ownBlock ∧ (v'.ownBlock = v1.ownBlock ∨ v'.ownBlock = some W.heap.size) := by
    have at_some : ∀ g o cap, (∀ (j : Nat) u, (cellsOf us sls2)[j]? = some u → W.cell? ⟨g, o + j, none⟩ = some u) → ∃ v' w', (Builtin.append_ #[22, 22] ty #[v1, .slice (some ⟨g, o, none⟩) us.length cap]).run Tryz.prog W = .ok v' w' ∧ w'.ownsRow B 24 4 v' (ts.length + us.length) (cellsOf ts sls ++ cellsOf us sls2) ∧ W.grownBy w' v1.ownBlock ∧ (v'.ownBlock = v1.ownBlock ∨ v'.ownBlock = some W.heap.size) := by
      intro g o cap hc
      have hnews : ∀ j u, (cellsOf us sls2)[j]? = some u → W.cell? ((⟨g, o, none⟩ : Addr).add j) = some u := by
        intro j u hj
        have ha : (⟨g, o, none⟩ : Addr).add j = ⟨g, o + j, none⟩ := by cases j <;> simp [Addr.add]
        rw [ha]; exact hc j u hj
      obtain ⟨v', w', hr, ho, hgr, _, hat⟩ := run_append_own_at (P := Tryz.prog) W B 22 ty 24 i0 _ 4 56 Tryz.underlying22 hi hz0 hz1 hz2 rfl (by decide) v1 _ _ o1 ⟨g, o, none⟩ us.length cap (cellsOf us sls2) (cellsOf_length k2.length) hnews (cellsOf_one k2.one) (by unfold maxLen; omega) (by omega) (by omega)
      exact ⟨v', w', hr, ho, hgr, hat⟩
    rcases r2 with ⟨e0, ao, cap, rfl⟩ | ⟨g, o, cap, rfl, _, _, hc⟩
    · have hu : us = [] := List.eq_nil_of_length_eq_zero e0
      subst hu
      have e2 : sls2 = [] := by simpa [KL] using k2
      subst e2
      cases ao with
      | none => exact ⟨v1, W, run_append_empty ty cap o1, by simpa [cellsOf] using o1, ⟨rfl, rfl, rfl, Nat.le_refl _, fun _ _ _ => rfl⟩, .inl rfl⟩
      | some a =>
        obtain ⟨v', w', hr, ho, hgr, _, hat⟩ := run_append_own_at (P := Tryz.prog) W B 22 ty 24 i0 _ 4 56 Tryz.underlying22 hi hz0 hz1 hz2 rfl (by decide) v1 _ _ o1 a 0 cap [] rfl (fun j u hj => by simp at hj) (fun u hu => by cases hu) (by unfold maxLen; simp at hlen; omega) (by simp at hlen; omega) (by omega)
        exact ⟨v', w', hr, by simpa [cellsOf] using ho, hgr, hat⟩
    · exact at_some g o cap hc
  obtain ⟨v', w', hr, ho, hgr, hat⟩ := key
  have hlt := o1.lt
  have hb : Below B W w' := ⟨hgr.os, hgr.tape, hgr.output, hgr.size, fun k hk => hgr.block k (by omega) (fun e => by have := hlt k e.symm; omega)⟩
  have hO : OwnZ Z w' B v' (ts ++ us) := ⟨sls ++ sls2, by rw [cellsOf_append k1.length, List.length_append]; exact ho, KL.append (k1.fr (fun b hb' => hb.block b (hZ b hb')) (fun _ h => h)) (k2.fr (fun b hb' => hb.block b (hZ b hb')) (fun _ h => h))⟩
  have hv : ∃ ao cap, v' = .slice ao (ts.length + us.length) cap := by
    rcases ho.2 with ⟨rfl, e⟩ | ⟨g, cap, cur, rfl, _⟩
    · exact ⟨none, 0, by rw [e]⟩
    · exact ⟨_, cap, rfl⟩
  obtain ⟨ao, cap, rfl⟩ := hv
  exact ⟨ao, cap, w', hr, hO, hb, hgr, hat⟩
theorem step_apd {W : World} {ops : Array Oper} {o : Oper} {a : Act} {K : Act → World → Prop} {Q : Exit → Act → World → Prop} {E : Prop} {Z : Nat → Prop} (hgd : o.guard = none) (s x : Operand)
    (ho : o.op = .call { callee := .builtin .append, args := #[s, x], argTypes := #[22, 22] }) {B : Nat} {v1 sl : Value} {ts us : List Tr} (hs : a.eval s = v1) (hx : a.eval x = sl)
    (h1 : OwnZ Z W B v1 ts) (h2 : Lst W Z us sl) (hZ : ∀ b, Z b → b < B) (hB : B ≤ W.heap.size) (hlen : ts.length + us.length ≤ 1000000)
    (h : ∀ ao cap w', OwnZ Z w' B (.slice ao (ts.length + us.length) cap) (ts ++ us) → Below B W w' → W.grownBy w' v1.ownBlock → ((Value.slice ao (ts.length + us.length) cap).ownBlock = v1.ownBlock ∨ (Value.slice ao (ts.length + us.length) cap).ownBlock = some W.heap.size) → K (a.put o.dst (.slice ao (ts.length + us.length) cap)) w') :
    if Region.wanted o (yielded ops a.tmps) = true then Oper.wp Tryz.prog o a W K Q else E := by
  have hw : Region.wanted o (yielded ops a.tmps) = true := by simp [Region.wanted, hgd]
  rw [if_pos hw]
  obtain ⟨ao, cap, w', hr, hO, hg, hgr, hat⟩ := run_apd o.type h1 h2 hZ hB hlen
  unfold Oper.wp execOp
  simp only [ho, resolve, invoke, builtin, Sem.run_bind, Sem.run_pure, Result.andThen_ok, List.map_toArray, List.map_cons, List.map_nil, hs, hx, hr]
  exact h ao cap w' hO hg hgr hat
theorem OwnZ.lt {Z : Nat → Prop} {W : World} {B : Nat} {v : Value} {ts : List Tr} (h : OwnZ Z W B v ts) : ∀ k, v.ownBlock = some k → B ≤ k ∧ k < W.heap.size := by
  obtain ⟨sls, h1, _⟩ := h
  exact h1.lt
theorem OwnZ.of_block {Z : Nat → Prop} {W W' : World} {B : Nat} {v : Value} {ts : List Tr} (h : OwnZ Z W B v ts) (hb : ∀ k, v.ownBlock = some k → W'.heap[k]? = W.heap[k]?) (hz : ∀ b, Z b → W'.heap[b]? = W.heap[b]?) : OwnZ Z W' B v ts := by
  obtain ⟨sls, h1, h2⟩ := h
  refine ⟨sls, ⟨h1.1, ?_⟩, h2.fr hz (fun _ h => h)⟩
  rcases h1.2 with h | ⟨g, cap, cur, rfl, hb', hg, rest⟩
  · exact .inl h
  · exact .inr ⟨g, cap, cur, rfl, hb', (hb g rfl).trans hg, rest⟩
theorem OwnZ.alloc {Z : Nat → Prop} {W : World} {B : Nat} {v : Value} {ts : List Tr} (h : OwnZ Z W B v ts) (hZ : ∀ b, Z b → b < B) (hB : B ≤ W.heap.size) (o : Obj) : OwnZ Z (W.alloc o) B v ts :=
  h.of_block (fun k hk => Below.heap_alloc W o k (h.lt k hk).2) (fun b hb => Below.heap_alloc W o b (Nat.lt_of_lt_of_le (hZ b hb) hB))
/-- A tree's kids out of such a list; it keeps clear of a block. -/
theorem OwnZ.kt {Z : Nat → Prop} {W : World} {B m : Nat} {v : Value} {ts : List Tr} (h : OwnZ Z W B v ts) (hZ : ∀ b, Z b → b < B) (hB : B ≤ W.heap.size) (hm : B ≤ m) (hv : v.ownBlock ≠ some m) (k : Int) (s : List UInt8) (n : Int) : KT W (fun b => b < W.heap.size ∧ b ≠ m) (.mk k s n ts) v := by
  obtain ⟨sls, h1, h2⟩ := h
  simp only [KT]
  refine ⟨sls, ?_, h2.fr (Fr.refl _ _) (fun b hb => ⟨Nat.lt_of_lt_of_le (hZ b hb) hB, by have := hZ b hb; omega⟩)⟩
  rcases h1.2 with ⟨rfl, e⟩ | ⟨g, cap, cur, rfl, hb, hg, hcap, _, hsz, htk⟩
  · exact .inl ⟨e, none, 0, rfl⟩
  · refine .inr ⟨g, 0, cap, rfl, hcap, ⟨lt_of_block hg, fun e => hv (by rw [e]; rfl)⟩, fun j u hj => ?_⟩
    rw [← htk] at hj
    have hj' : cur[j]? = some u := by
      rw [List.getElem?_take] at hj
      split at hj
      · simpa using hj
      · cases hj
    simp [World.cell?, hg, hj']
/-- The joined node in its box. -/
structure Fin9 (w7 Wf : World) (k : Nat) (ts : List Tr) (ao : Option Addr) (n c : Nat) : Prop where
  f0 : Wf.cell? ⟨k, 0, none⟩ = some (.int .i64 1)
  f1 : Wf.cell? ⟨k, 1, none⟩ = some (.string ⟨#[]⟩)
  f2 : Wf.cell? ⟨k, 2, none⟩ = some (.int .i64 0)
  f3 : Wf.cell? ⟨k, 3, none⟩ = some (.slice ao n c)
  bel : Below w7.heap.size w7 Wf
  kt : KT Wf (fun b => b < Wf.heap.size) (.mk 1 [] 0 ts) (.slice ao n c)
theorem finA {w7 w9 : World} {ts : List Tr} {ao : Option Addr} {n c : Nat} (h : OwnZ (fun b => b < w7.heap.size) w9 w7.heap.size (.slice ao n c) ts) (hb : Below w7.heap.size w7 w9) :
    ∃ Wf, w9.alloc (.cells #[.int .i64 1, .string ⟨#[]⟩, .int .i64 0, .slice ao n c] 24) = Wf ∧ Fin9 w7 Wf w9.heap.size ts ao n c := by
  have hz := hb.size
  refine ⟨_, rfl, by rw [World.cell?_alloc_new]; rfl, by rw [World.cell?_alloc_new]; rfl, by rw [World.cell?_alloc_new]; rfl, by rw [World.cell?_alloc_new]; rfl, hb.alloc hz _, ?_⟩
  exact ((h.alloc (fun _ h => h) hz _).kt (m := w9.heap.size) (fun _ h => h) (by rw [World.size_alloc]; omega) hz (fun e => by have := (h.lt _ e).2; omega) 1 [] 0).fr (Fr.refl _ _) (fun b hb => hb.1)
theorem finP {w7 w9 : World} {ts : List Tr} {ao : Option Addr} {n c k : Nat} (h : OwnZ (fun b => b < w7.heap.size) w9 w7.heap.size (.slice ao n c) ts) (hb : Below w7.heap.size w7 w9) (hx : Box w9 k) (hk : w7.heap.size ≤ k) (hv : (Value.slice ao n c).ownBlock ≠ some k) :
    ∃ Wf, ((((w9.setCell ⟨k, 0, none⟩ (.int .i64 1)).setCell ⟨k, 1, none⟩ (.string ⟨#[]⟩)).setCell ⟨k, 2, none⟩ (.int .i64 0)).setCell ⟨k, 3, none⟩ (.slice ao n c)) = Wf ∧ Fin9 w7 Wf k ts ao n c := by
  obtain ⟨Wf, hWf, hput, _, d0, d1, d2, d3⟩ := putN4 hx (.int .i64 1) (.string ⟨#[]⟩) (.int .i64 0) (.slice ao n c)
  refine ⟨Wf, hWf, d0, d1, d2, d3, below_put hb hput hk, ?_⟩
  exact (h.kt (m := k) (fun _ h => h) hb.size hk hv 1 [] 0).fr (fun b hb' => hput.block b hb'.2) (fun b hb' => by rw [hput.size]; exact hb'.1)
end Go.Proofs.YtnkphlkjhgngkaaGreatDoor
