/- Both heaps beside one another: the program's and the document's. -/
import Derived.Test.YtimpmgbahgganaaRhVJp
import Derived.Test.YtimpmgbahgganaaRhCJp
import Derived.Test.YtimpmgbahgganaaHpP
import Derived.ChangeKeysEq
namespace Go.Proofs.Ytimpmgbahgganaa
open Go.RowKit Go.Maps
/-- A heap of one's own at block H, made since w0; the blocks bs are not its. -/
structure Hq (w0 w : World) (H : Nat) (h : Hs) (k : Nat) (bs : List Nat) : Prop where
  ex : ∃ Y, Y.H = H ∧ Y.X.B = w0.heap.size ∧ HLies Y w h k ∧ ∀ g ∈ bs, w0.heap.size ≤ g ∧ g < w.heap.size ∧ ¬ Y.own g
  inv : HInv h
  bel : Below w0.heap.size w0 w
/-- These blocks are as they were. -/
def Same (bs : List Nat) (w w' : World) : Prop := ∀ g ∈ bs, w'.heap[g]? = w.heap[g]?
section
variable {w0 w w' : World} {H : Nat} {h h' : Hs} {k k' : Nat} {bs : List Nat}
theorem Hp.q (P : Hp w0 w H h k) : Hq w0 w H h k [] := by
  obtain ⟨Y, e1, e2, L⟩ := P.ex
  exact ⟨⟨Y, e1, e2, L, fun g hg => by cases hg⟩, P.inv, P.bel⟩
theorem Hq.lt (P : Hq w0 w H h k bs) {g : Nat} (hg : g ∈ bs) : w0.heap.size ≤ g ∧ g < w.heap.size := by
  obtain ⟨Y, _, _, _, hb⟩ := P.ex
  exact ⟨(hb g hg).1, (hb g hg).2.1⟩
theorem Hq.step {Y Y' : Hh} (P : Hq w0 w H h k bs) (e1 : Y.H = H) (e2 : Y.X.B = w0.heap.size) (L : HLies Y w h k) (hb : ∀ g ∈ bs, w0.heap.size ≤ g ∧ g < w.heap.size ∧ ¬ Y.own g) (L' : HLies Y' w' h' k') (S : HStep Y Y' w w') (I : HInv h') : Hq w0 w' H h' k' bs ∧ Same bs w w' := by
  refine ⟨⟨⟨Y', S.H.trans e1, S.B.trans e2, L', fun g hg => ?_⟩, I, S.below L (by omega) P.bel⟩, fun g hg => S.block g (hb g hg).2.1 (hb g hg).2.2⟩
  obtain ⟨h1, h2, h3⟩ := hb g hg
  refine ⟨h1, Nat.lt_of_lt_of_le h2 S.size, fun ho => ?_⟩
  rcases S.own g ho with h4 | h4
  · exact h3 h4
  · omega
theorem Hq.under (P : Hq w0 w H h k bs) (hb : Below w.heap.size w w') : Hq w0 w' H h k bs ∧ Same bs w w' := by
  obtain ⟨Y, e1, e2, L, hbs⟩ := P.ex
  exact P.step e1 e2 L hbs (L.below hb) (HStep.of_below hb) P.inv
/-- A new block of the law's own. -/
theorem Hq.alloc (P : Hq w0 w H h k bs) (o : Obj) : Hq w0 (w.alloc o) H h k (w.heap.size :: bs) := by
  obtain ⟨Y, e1, e2, L, hb⟩ := P.ex
  refine ⟨⟨Y, e1, e2, L.alloc o, fun g hg => ?_⟩, P.inv, P.bel.alloc P.bel.size o⟩
  rcases List.mem_cons.1 hg with rfl | hg
  · exact ⟨P.bel.size, by simp, fun ho => by have := (L.own_lt ho).2; omega⟩
  · obtain ⟨h1, h2, h3⟩ := hb g hg
    exact ⟨h1, by simp; omega, h3⟩
/-- Blocks of the law's own are changed. -/
theorem Hq.grow (P : Hq w0 w H h k bs) (os : w'.os = w.os) (tape : w'.tape = w.tape) (output : w'.output = w.output) (size : w.heap.size ≤ w'.heap.size) (hc : ∀ g, g < w.heap.size → g ∉ bs → w'.heap[g]? = w.heap[g]?) : Hq w0 w' H h k bs := by
  obtain ⟨Y, e1, e2, L, hb⟩ := P.ex
  refine ⟨⟨Y, e1, e2, L.keep (fun j hj => hc j (L.own_lt hj).2 (fun hm => (hb j hm).2.2 hj)) size, fun g hg => ?_⟩, P.inv, P.bel.trans ⟨os, tape, output, size, fun g hg => hc g (Nat.lt_of_lt_of_le hg P.bel.size) (fun hm => by have := (hb g hm).1; omega)⟩⟩
  obtain ⟨h1, h2, h3⟩ := hb g hg
  exact ⟨h1, by omega, h3⟩
theorem Hq.sub {bs' : List Nat} (P : Hq w0 w H h k bs) (hs : ∀ g ∈ bs', g ∈ bs) : Hq w0 w H h k bs' := by
  obtain ⟨Y, e1, e2, L, hb⟩ := P.ex
  exact ⟨⟨Y, e1, e2, L, fun g hg => hb g (hs g hg)⟩, P.inv, P.bel⟩
/-- Behind a list that was put to: its block may be another. -/
theorem Hq.grown (P : Hq w0 w H h k bs) {row : Option Nat} (hg : w.grownBy w' row) (hr : ∀ g, row = some g → g ∈ bs) {g' : Nat} (hn : row = some g' ∨ w.heap.size ≤ g') (hl : g' < w'.heap.size) : Hq w0 w' H h k (g' :: bs) := by
  obtain ⟨Y, e1, e2, L, hb⟩ := P.ex
  have hc : ∀ g, g < w.heap.size → g ∉ bs → w'.heap[g]? = w.heap[g]? := fun g h1 h2 => hg.block g h1 (fun e => h2 (hr g e.symm))
  refine ⟨⟨Y, e1, e2, L.keep (fun j hj => hc j (L.own_lt hj).2 (fun hm => (hb j hm).2.2 hj)) hg.size, fun g h1 => ?_⟩, P.inv, P.bel.trans ⟨hg.os, hg.tape, hg.output, hg.size, fun g h1 => hc g (Nat.lt_of_lt_of_le h1 P.bel.size) (fun hm => by have := (hb g hm).1; omega)⟩⟩
  have old : ∀ g ∈ bs, w0.heap.size ≤ g ∧ g < w'.heap.size ∧ ¬ Y.own g := fun g hm => by
    obtain ⟨a1, a2, a3⟩ := hb g hm
    exact ⟨a1, Nat.lt_of_lt_of_le a2 hg.size, a3⟩
  rcases List.mem_cons.1 h1 with rfl | h1
  · rcases hn with h2 | h2
    · exact old g (hr g h2)
    · exact ⟨Nat.le_trans P.bel.size h2, hl, fun ho => by have := (L.own_lt ho).2; omega⟩
  · exact old g h1
end
theorem ints_uniq {w : World} {v : Value} {l m : List Int} (h : IntsAt w v l) (g : IntsAt w v m) : l = m := by
  obtain ⟨ao, cap, rfl, hl⟩ := h
  obtain ⟨bo, bcap, e, hm⟩ := g
  have hlen : l.length = m.length := by injection e
  have hao : ao = bo := by injection e
  apply List.ext_getElem?
  intro j
  cases hx : l[j]? with
  | none => rw [List.getElem?_eq_none (by rw [← hlen]; exact List.getElem?_eq_none_iff.1 hx)]
  | some x =>
    obtain ⟨y, hy⟩ : ∃ y, m[j]? = some y := ⟨m[j]'(by rw [← hlen]; exact get_lt hx), by simp⟩
    obtain ⟨_, g1, o1, e1, _, c1⟩ := hl j x hx
    obtain ⟨_, g2, o2, e2, _, c2⟩ := hm j y hy
    rw [← hao, e1] at e2
    cases e2
    rw [c1] at c2
    cases c2
    rw [hy]
theorem lays_uniq {w : World} {v : Value} {l m : List (List Int)} (h : LaysAt w v l) (g : LaysAt w v m) : l = m := by
  obtain ⟨ao, cap, rfl, hl⟩ := h
  obtain ⟨bo, bcap, e, hm⟩ := g
  have hlen : l.length = m.length := by injection e
  have hao : ao = bo := by injection e
  apply List.ext_getElem?
  intro j
  cases hx : l[j]? with
  | none => rw [List.getElem?_eq_none (by rw [← hlen]; exact List.getElem?_eq_none_iff.1 hx)]
  | some x =>
    obtain ⟨y, hy⟩ : ∃ y, m[j]? = some y := ⟨m[j]'(by rw [← hlen]; exact get_lt hx), by simp⟩
    obtain ⟨g1, o1, u1, e1, _, c1, i1⟩ := hl j x hx
    obtain ⟨g2, o2, u2, e2, _, c2, i2⟩ := hm j y hy
    rw [← hao, e1] at e2
    cases e2
    rw [c1] at c2
    cases c2
    rw [hy, ints_uniq i1 i2]
/-- Both heaps; fb are blocks of the law's own. -/
structure Tw (w0 w : World) (H : Nat) (hp : Hs) (k : Nat) (h : Hs) (q : Rh) (vt vp vs vo : Value) (fb : List Nat) : Prop where
  ex : ∃ bs, Hq w0 w H hp k bs ∧ (∀ g ∈ fb, g ∈ bs) ∧ ∀ g, vp.ownBlock = some g ∨ vs.ownBlock = some g ∨ vo.ownBlock = some g → g ∈ bs
  rh : RH w0.heap.size w q vt vp vs vo
  sim : SimH h q
  inv : HInv h
  lay : LaysAt w0 vt q.ty
  sep : ∀ g ∈ fb, vp.ownBlock ≠ some g ∧ vs.ownBlock ≠ some g ∧ vo.ownBlock ≠ some g
section
variable {w0 w w' : World} {H : Nat} {h h' hp hp' : Hs} {k k' : Nat} {q q' : Rh} {vt vp vs vo vp' vs' vo' : Value} {fb : List Nat}
theorem Tw.bel (T : Tw w0 w H hp k h q vt vp vs vo fb) : Below w0.heap.size w0 w := by obtain ⟨bs, P, _⟩ := T.ex; exact P.bel
theorem Tw.lt (T : Tw w0 w H hp k h q vt vp vs vo fb) {g : Nat} (hg : g ∈ fb) : w0.heap.size ≤ g ∧ g < w.heap.size := by obtain ⟨bs, P, h1, _⟩ := T.ex; exact P.lt (h1 g hg)
/-- Nothing that lies is changed. -/
theorem Tw.under (T : Tw w0 w H hp k h q vt vp vs vo fb) (hb : Below w.heap.size w w') : Tw w0 w' H hp k h q vt vp vs vo fb := by
  obtain ⟨bs, P, h1, h2⟩ := T.ex
  exact ⟨⟨bs, (P.under hb).1, h1, h2⟩, T.rh.below hb, T.sim, T.inv, T.lay, T.sep⟩
/-- A call of the program's. -/
theorem Tw.step {Y Y' : Hh} {bs : List Nat} (T : Tw w0 w H hp k h q vt vp vs vo fb) (P : Hq w0 w H hp k bs) (h1 : ∀ g ∈ fb, g ∈ bs) (h2 : ∀ g, vp.ownBlock = some g ∨ vs.ownBlock = some g ∨ vo.ownBlock = some g → g ∈ bs) (e1 : Y.H = H) (e2 : Y.X.B = w0.heap.size) (L : HLies Y w hp k) (hb : ∀ g ∈ bs, w0.heap.size ≤ g ∧ g < w.heap.size ∧ ¬ Y.own g) (L' : HLies Y' w' hp' k') (S : HStep Y Y' w w') (I : HInv hp') :
    Tw w0 w' H hp' k' h q vt vp vs vo fb ∧ Same fb w w' := by
  obtain ⟨P', hs⟩ := P.step e1 e2 L hb L' S I
  have R := T.rh
  exact ⟨⟨⟨bs, P', h1, h2⟩, ⟨T.lay.below P'.bel, R.rl.keep (fun g hg => hs g (h2 g (.inl hg))) (fun g hg => hs g (h2 g (.inr (.inl hg)))) S.size, ownsRow_keep R.obs fun g hg => hs g (h2 g (.inr (.inr hg))), R.bt, R.bf, R.bo, R.ok⟩, T.sim, T.inv, T.lay, T.sep⟩, fun g hg => hs g (h1 g hg)⟩
/-- A call of the document's. -/
theorem Tw.ref (T : Tw w0 w H hp k h q vt vp vs vo fb) (hO : HOut w0.heap.size w vt vp vs vo q' vp' vs' vo' w') (hS : SimH h' q') (hI : HInv h') : Tw w0 w' H hp k h' q' vt vp' vs' vo' fb := by
  obtain ⟨bs, P, h1, h2⟩ := T.ex
  have hu := (P.under hO.below).1
  obtain ⟨Y, e1, e2, L, hb⟩ := hu.ex
  obtain ⟨Y0, f1, f2, L0, hb0⟩ := P.ex
  have hs := hO.below.size
  refine ⟨⟨bs ++ (vp'.ownBlock.toList ++ (vs'.ownBlock.toList ++ vo'.ownBlock.toList)), ⟨⟨Y0, f1, f2, L0.below hO.below, fun g hg => ?_⟩, P.inv, hu.bel⟩, fun g hg => List.mem_append.2 (.inl (h1 g hg)), fun g hg => ?_⟩, hO.rh, hS, hI, by rw [lays_uniq hO.rh.lay (T.lay.below hu.bel)]; exact T.lay, fun g hg => ⟨fun e => (hO.fp g e).elim (T.sep g hg).1 (fun h => by have := (T.lt hg).2; omega), fun e => (hO.fs g e).elim (T.sep g hg).2.1 (fun h => by have := (T.lt hg).2; omega), fun e => (hO.fo g e).elim (T.sep g hg).2.2 (fun h => by have := (T.lt hg).2; omega)⟩⟩
  · have old : ∀ g, g ∈ bs → w0.heap.size ≤ g ∧ g < w'.heap.size ∧ ¬ Y0.own g := fun g hg => ⟨(hb0 g hg).1, by have := (hb0 g hg).2.1; omega, (hb0 g hg).2.2⟩
    have new : ∀ {v v' : Value}, (∀ g, v.ownBlock = some g → g ∈ bs) → (∀ g, v'.ownBlock = some g → v.ownBlock = some g ∨ w.heap.size ≤ g) → (∀ g, v'.ownBlock = some g → g < w'.heap.size) → ∀ g, v'.ownBlock = some g → w0.heap.size ≤ g ∧ g < w'.heap.size ∧ ¬ Y0.own g := fun a1 a2 a3 g hg => by
      rcases a2 g hg with h3 | h3
      · exact old g (a1 g h3)
      · exact ⟨Nat.le_trans P.bel.size h3, a3 g hg, fun ho => by have := (L0.own_lt ho).2; omega⟩
    simp only [List.mem_append, Option.mem_toList] at hg
    rcases hg with hg | hg | hg | hg
    · exact old g hg
    · exact new (fun g hg => h2 g (.inl hg)) hO.fp (fun g hg => (hO.rh.rl.pcs.lt g hg).2) g hg
    · exact new (fun g hg => h2 g (.inr (.inl hg))) hO.fs (fun g hg => (hO.rh.rl.sto.lt g hg).2) g hg
    · exact new (fun g hg => h2 g (.inr (.inr hg))) hO.fo (fun g hg => (hO.rh.obs.lt g hg).2) g hg
  · simp only [List.mem_append, Option.mem_toList]
    rcases hg with hg | hg | hg
    · exact .inr (.inl hg)
    · exact .inr (.inr (.inl hg))
    · exact .inr (.inr (.inr hg))
/-- A new block of the law's own. -/
theorem Tw.alloc (T : Tw w0 w H hp k h q vt vp vs vo fb) (o : Obj) : Tw w0 (w.alloc o) H hp k h q vt vp vs vo (w.heap.size :: fb) := by
  obtain ⟨bs, P, h1, h2⟩ := T.ex
  exact ⟨⟨w.heap.size :: bs, P.alloc o, fun g hg => by rcases List.mem_cons.1 hg with rfl | hg; exact List.mem_cons_self; exact List.mem_cons_of_mem _ (h1 g hg), fun g hg => List.mem_cons_of_mem _ (h2 g hg)⟩, T.rh.alloc o, T.sim, T.inv, T.lay, fun g hg => by
    rcases List.mem_cons.1 hg with rfl | hg
    · exact ⟨fun e => by have := (T.rh.rl.pcs.lt _ e).2; omega, fun e => by have := (T.rh.rl.sto.lt _ e).2; omega, fun e => by have := (T.rh.obs.lt _ e).2; omega⟩
    · exact T.sep g hg⟩
/-- A block of the law's own, which is none of the document's, is changed. -/
theorem Tw.set (T : Tw w0 w H hp k h q vt vp vs vo fb) {b : Nat} (hb : b ∈ fb) (hw : w'.os = w.os ∧ w'.tape = w.tape ∧ w'.output = w.output ∧ w.heap.size = w'.heap.size) (hc : ∀ g, g ≠ b → w'.heap[g]? = w.heap[g]?) : Tw w0 w' H hp k h q vt vp vs vo fb := by
  obtain ⟨bs, P, h1, h2⟩ := T.ex
  have hn := T.sep b hb
  have P' := P.grow hw.1 hw.2.1 hw.2.2.1 (Nat.le_of_eq hw.2.2.2) (fun g _ hg => hc g (fun e => hg (by rw [e]; exact h1 b hb)))
  have R := T.rh
  exact ⟨⟨bs, P', h1, h2⟩, ⟨T.lay.below P'.bel, R.rl.keep (fun g hg => hc g (fun e => hn.1 (by rw [← e]; exact hg))) (fun g hg => hc g (fun e => hn.2.1 (by rw [← e]; exact hg))) (Nat.le_of_eq hw.2.2.2), ownsRow_keep R.obs fun g hg => hc g (fun e => hn.2.2 (by rw [← e]; exact hg)), R.bt, R.bf, R.bo, R.ok⟩, T.sim, T.inv, T.lay, T.sep⟩
theorem Tw.sub {fb' : List Nat} (T : Tw w0 w H hp k h q vt vp vs vo fb) (hs : ∀ g ∈ fb', g ∈ fb) : Tw w0 w H hp k h q vt vp vs vo fb' := by
  obtain ⟨bs, P, h1, h2⟩ := T.ex
  exact ⟨⟨bs, P, fun g hg => h1 g (hs g hg), h2⟩, T.rh, T.sim, T.inv, T.lay, fun g hg => T.sep g (hs g hg)⟩
end
end Go.Proofs.Ytimpmgbahgganaa

namespace Go.Proofs.Ytimpmgbahgganaa
open Go.RowKit Go.Maps
section
variable {w0 w w' : World} {H : Nat} {h h' hp : Hs} {k : Nat} {q q' : Rh} {vt vp vs vo : Value} {fb : List Nat}
theorem Tw.same (T : Tw w0 w H hp k h q vt vp vs vo fb) (hb : Below w.heap.size w w') : Same fb w w' := fun g hg => hb.block g (T.lt hg).2
theorem MakeP.det {t n x c x2 c2 : Int} {h1 h2 : Hs} (M : MakeP h t n x c h1) (N : MakeP h t n x2 c2 h2) : x = x2 ∧ c = c2 ∧ h1 = h2 := by
  cases M with
  | none a1 =>
    cases N with
    | none => exact ⟨rfl, rfl, rfl⟩
    | arg m e l => omega
    | large m j f e hf => have := get_lt hf; omega
    | full m j f e hf => have := get_lt hf; omega
    | made m j y f s' e hf => have := get_lt hf; omega
  | arg m e l hn =>
    cases N with
    | none a1 => omega
    | arg => exact ⟨rfl, rfl, rfl⟩
    | large m j f e hf e2 hk => omega
    | full m j f e hf e2 hk => omega
    | made m j y f s' e hf e2 hk => omega
  | large m j f e hf e2 hk hw =>
    cases N with
    | none a1 => have := get_lt hf; omega
    | arg m e l hn => omega
    | large => exact ⟨rfl, rfl, rfl⟩
    | full m' j' f' e' hf' e2' hk' hw' =>
      obtain rfl : m = m' := by omega
      obtain rfl : j = j' := by omega
      rw [hf] at hf'; cases hf'; omega
    | made m' j' y f' s' e' hf' e2' hk' hw' =>
      obtain rfl : m = m' := by omega
      obtain rfl : j = j' := by omega
      rw [hf] at hf'; cases hf'; omega
  | full m j f e hf e2 hk hw ha =>
    cases N with
    | none a1 => have := get_lt hf; omega
    | arg m e l hn => omega
    | large m' j' f' e' hf' e2' hk' hw' =>
      obtain rfl : m = m' := by omega
      obtain rfl : j = j' := by omega
      rw [hf] at hf'; cases hf'; omega
    | full => exact ⟨rfl, rfl, rfl⟩
    | made m' j' y f' s' e' hf' e2' hk' hw' ha' =>
      obtain rfl : m = m' := by omega
      obtain rfl : j = j' := by omega
      rw [hf] at hf'; cases hf'
      rw [ha] at ha'; cases ha'
  | made m j y f s' e hf e2 hk hw ha =>
    cases N with
    | none a1 => have := get_lt hf; omega
    | arg m e l hn => omega
    | large m' j' f' e' hf' e2' hk' hw' =>
      obtain rfl : m = m' := by omega
      obtain rfl : j = j' := by omega
      rw [hf] at hf'; cases hf'; omega
    | full m' j' f' e' hf' e2' hk' hw' ha' =>
      obtain rfl : m = m' := by omega
      obtain rfl : j = j' := by omega
      rw [hf] at hf'; cases hf'
      rw [ha] at ha'; cases ha'
    | made m' j' y' f' s2 e' hf' e2' hk' hw' ha' =>
      obtain rfl : m = m' := by omega
      obtain rfl : j = j' := by omega
      rw [hf] at hf'; cases hf'
      rw [ha] at ha'; cases ha'
      exact ⟨rfl, rfl, rfl⟩
theorem tw_make (T : Tw w0 w H h k h q vt vp vs vo fb) (t n : Int) (hk : k < 900000000) : Calls Try.prog 11 #[hptr H, .int .i64 t, .int .i64 n] w fun e w' => ∃ x c h', e = two (x, c) ∧ Hid (MakeP h t n x c h' ∧ Tw w0 w' H h' (k + 2) h q vt vp vs vo fb ∧ Same fb w w') := by
  obtain ⟨bs, P, h1, h2⟩ := T.ex
  obtain ⟨Y, e1, e2, L, hb⟩ := P.ex
  have hm := make_any L P.inv t n hk
  rw [show Y.p = hptr H by unfold Hh.p; rw [e1]] at hm
  refine hm.mono ?_
  rintro e w' ⟨x, c, h', Y', he, hM, L', S⟩
  exact ⟨x, c, h', he, hM, T.step P h1 h2 e1 e2 L hb L' S (hM.inv P.inv)⟩
theorem tr_make (T : Tw w0 w H hp k h q vt vp vs vo fb) {t n x c : Int} (M : MakeP h t n x c h') : Calls Try.prog 12 #[rhv q vt vp vs vo, .int .i64 t, .int .i64 n] w fun e w' => ∃ q' vp' vs' vo', e = .returned (.tuple #[.int .i64 x, .int .i64 c, rhv q' vt vp' vs' vo']) ∧ Hid (Tw w0 w' H hp k h' q' vt vp' vs' vo' fb ∧ q'.r.fd + q'.ob.length ≤ q.r.fd + q.ob.length + 1 ∧ Same fb w w') := by
  refine (rmake_any T.rh T.sim T.inv t n).mono ?_
  rintro e w' ⟨x2, c2, q', vp', vs', vo', h2, he, M2, hS, hO⟩
  obtain ⟨rfl, rfl, rfl⟩ := M.det M2
  exact ⟨q', vp', vs', vo', he, T.ref hO.out hS.out.1 (M.inv T.inv), hS.out.2, T.same hO.out.below⟩
theorem tw_get (T : Tw w0 w H h k h q vt vp vs vo fb) {x : Int} (hx : x ≤ 9223372036854775807) : Calls Try.prog 13 #[hptr H, .int .i64 x] w fun e w' => e = two (getHP h x) ∧ Hid (Tw w0 w' H h k h q vt vp vs vo fb ∧ Same fb w w') := by
  obtain ⟨bs, P, h1, h2⟩ := T.ex
  obtain ⟨Y, e1, e2, L, hb⟩ := P.ex
  have hm := hget_any L P.inv hx
  rw [show Y.p = hptr H by unfold Hh.p; rw [e1]] at hm
  refine hm.mono ?_
  rintro e w' ⟨he, hbl⟩
  exact ⟨he, T.under hbl, T.same hbl⟩
theorem tr_get (T : Tw w0 w H hp k h q vt vp vs vo fb) (x : Int) : Calls Try.prog 14 #[rhv q vt vp vs vo, .int .i64 x] w fun e w' => e = two (getHP h x) ∧ Hid (Tw w0 w' H hp k h q vt vp vs vo fb ∧ Same fb w w') := by
  refine (rgeth_any T.rh T.sim T.inv x).mono ?_
  rintro e w' ⟨he, hbl⟩
  exact ⟨he, T.under hbl, T.same hbl⟩
theorem setHP_inv (I : HInv h) {x v : Int} (hv : v ≤ 9223372036854775807) : HInv (setHP h x v).2 := by
  unfold setHP
  repeat' split
  all_goals first | exact I | exact I.set _ hv
theorem tw_set (T : Tw w0 w H h k h q vt vp vs vo fb) {x v : Int} (hx : x ≤ 9223372036854775807) (hv : v ≤ 9223372036854775807) : Calls Try.prog 15 #[hptr H, .int .i64 x, .int .i64 v] w fun e w' => e = .returned (.int .i64 (setHP h x v).1) ∧ Hid (Tw w0 w' H (setHP h x v).2 k h q vt vp vs vo fb ∧ Same fb w w') := by
  obtain ⟨bs, P, h1, h2⟩ := T.ex
  obtain ⟨Y, e1, e2, L, hb⟩ := P.ex
  have hm := hset_any L P.inv hx hv
  rw [show Y.p = hptr H by unfold Hh.p; rw [e1]] at hm
  refine hm.mono ?_
  rintro e w' ⟨he, L', S⟩
  exact ⟨he, T.step P h1 h2 e1 e2 L hb L' S (setHP_inv P.inv hv)⟩
theorem tr_set (T : Tw w0 w H hp k h q vt vp vs vo fb) {x v : Int} (hv : v ≤ 9223372036854775807) : Calls Try.prog 16 #[rhv q vt vp vs vo, .int .i64 x, .int .i64 v] w fun e w' => ∃ q' vp' vs', e = .returned (.tuple #[.int .i64 (setHP h x v).1, rhv q' vt vp' vs' vo]) ∧ Hid (Tw w0 w' H hp k (setHP h x v).2 q' vt vp' vs' vo fb ∧ q'.r.fd + q'.ob.length ≤ q.r.fd + q.ob.length + 1 ∧ Same fb w w') := by
  refine (rseth_any T.rh T.sim T.inv x v).mono ?_
  rintro e w' ⟨q', vp', vs', he, hS, hO⟩
  exact ⟨q', vp', vs', he, T.ref hO.out hS.out.1 (setHP_inv T.inv hv), by rw [hS.out.2.1, hS.out.2.2]; exact Nat.le_succ _, T.same hO.out.below⟩
theorem tw_base (T : Tw w0 w H h k h q vt vp vs vo fb) {x : Int} (hx : x ≤ 9223372036854775807) : Calls Try.prog 17 #[hptr H, .int .i64 x] w fun e w' => ∃ a t n c, e = four a t n c ∧ Hid (BaseP h x a t n c ∧ Tw w0 w' H h k h q vt vp vs vo fb ∧ Same fb w w') := by
  obtain ⟨bs, P, h1, h2⟩ := T.ex
  obtain ⟨Y, e1, e2, L, hb⟩ := P.ex
  have hm := base_any L P.inv hx
  rw [show Y.p = hptr H by unfold Hh.p; rw [e1]] at hm
  refine hm.mono ?_
  rintro e w' ⟨a, t, n, c, he, hB, hbl⟩
  exact ⟨a, t, n, c, he, hB, T.under hbl, T.same hbl⟩
theorem tr_base (T : Tw w0 w H hp k h q vt vp vs vo fb) {x a t n c : Int} (hB : BaseP h x a t n c) : Calls Try.prog 18 #[rhv q vt vp vs vo, .int .i64 x] w fun e w' => e = four a t n c ∧ Hid (Tw w0 w' H hp k h q vt vp vs vo fb ∧ Same fb w w') := by
  refine (rbase_any T.rh T.sim T.inv hB).mono ?_
  rintro e w' ⟨he, hbl⟩
  exact ⟨he, T.under hbl, T.same hbl⟩
/-- What a collection comes to, plain. -/
def ColP (h : Hs) (rs : List Int) (y c : Int) (h' : Hs) : Prop :=
  ((∃ x ∈ rs, namesB h x = false) ∧ y = 0 ∧ c = 1 ∧ h' = h) ∨
  ((∀ x ∈ rs, namesB h x = true) ∧ c = 0 ∧ ∃ F : Nat → Bool, (∀ a, F a = true ↔ Reach h rs a) ∧ y = (((gone h F).length : Nat) : Int) ∧ h' = freeAll h (gone h F))
theorem Tw.more {k' : Nat} (T : Tw w0 w H hp k h q vt vp vs vo fb) (hk : k ≤ k') : Tw w0 w H hp k' h q vt vp vs vo fb := by
  obtain ⟨bs, P, h1, h2⟩ := T.ex
  obtain ⟨Y, e1, e2, L, hb⟩ := P.ex
  exact ⟨⟨bs, ⟨⟨Y, e1, e2, L.mono hk, hb⟩, P.inv, P.bel⟩, h1, h2⟩, T.rh, T.sim, T.inv, T.lay, T.sep⟩
theorem tw_collect (T : Tw w0 w H h k h q vt vp vs vo fb) {v : Value} {rs : List Int} (R : IntsAt w v rs) (hl : rs.length ≤ 2000000) (hk : k ≤ 900000000) : Calls Try.prog 19 #[hptr H, v] w fun e w' => ∃ y c h', e = two (y, c) ∧ Hid (ColP h rs y c h' ∧ Tw w0 w' H h' (k + 65536) h q vt vp vs vo fb ∧ Same fb w w') := by
  obtain ⟨bs, P, h1, h2⟩ := T.ex
  obtain ⟨Y, e1, e2, L, hb⟩ := P.ex
  have hm := collect_any L P.inv R hl hk
  rw [show Y.p = hptr H by unfold Hh.p; rw [e1]] at hm
  refine hm.mono ?_
  rintro e w' ⟨y, c, he, hc⟩
  rcases hc.out with ⟨hbad, rfl, rfl, hbl⟩ | ⟨hall, rfl, F, Y', hF, rfl, L', S⟩
  · exact ⟨_, _, h, he, .inl ⟨hbad, rfl, rfl, rfl⟩, (T.under hbl).more (by omega), T.same hbl⟩
  · exact ⟨_, _, _, he, .inr ⟨hall, rfl, F, hF, rfl, rfl⟩, T.step P h1 h2 e1 e2 L hb L' S (gone_inv P.inv F).1⟩
theorem tr_collect (T : Tw w0 w H hp k h q vt vp vs vo fb) {v : Value} {rs : List Int} (R : IntsAt w v rs) (hl : rs.length ≤ 2000000) (hfd : q.r.fd + q.ob.length < 60000) {y c : Int} (M : ColP h rs y c h') : Calls Try.prog 20 #[rhv q vt vp vs vo, v] w fun e w' => ∃ q' vp' vs' vo', e = .returned (.tuple #[.int .i64 y, .int .i64 c, rhv q' vt vp' vs' vo']) ∧ Hid (Tw w0 w' H hp k h' q' vt vp' vs' vo' fb ∧ q'.r.fd + q'.ob.length ≤ q.r.fd + q.ob.length + 1 ∧ Same fb w w') := by
  refine (rcollect_any T.rh T.sim T.inv R hl hfd).mono ?_
  rintro e w' (⟨⟨x, hx, hb⟩, he, hbl⟩ | ⟨hall, F, r', vp', vs', vo', hF, he, hS, hO, hfe⟩)
  · rcases M with ⟨_, rfl, rfl, rfl⟩ | ⟨hall, _⟩
    · exact ⟨q, vp, vs, vo, he, T.under hbl, Nat.le_succ _, T.same hbl⟩
    · rw [hall x hx] at hb; cases hb
  · rcases M with ⟨⟨x, hx, hb⟩, _⟩ | ⟨_, rfl, G, hG, rfl, rfl⟩
    · rw [hall x hx] at hb; cases hb
    · have e1 : gone h F = gone h G := gone_congr fun a => (hF a).trans (hG a).symm
      rw [e1] at he hS
      exact ⟨_, _, _, _, he, T.ref hO hS (gone_inv T.inv G).1, by show r'.fd + (kept q F).length ≤ _; omega, T.same hO.below⟩
theorem tw_live (T : Tw w0 w H h k h q vt vp vs vo fb) (hk : k ≤ 1000000000) : Calls Try.prog 22 #[hptr H] w fun e w' => ∃ ao cap, e = .returned (.slice ao (liveL h.s.ps).length cap) ∧ Hid (w'.ownsRow w.heap.size 3 1 (.slice ao (liveL h.s.ps).length cap) (liveL h.s.ps).length (addrs (liveL h.s.ps)) ∧ Below w.heap.size w w' ∧ Tw w0 w' H h k h q vt vp vs vo fb ∧ Same fb w w') := by
  obtain ⟨bs, P, h1, h2⟩ := T.ex
  obtain ⟨Y, e1, e2, L, hb⟩ := P.ex
  have hm := hlive_any L P.inv hk
  rw [show Y.p = hptr H by unfold Hh.p; rw [e1]] at hm
  refine hm.mono ?_
  rintro e w' ⟨v, rfl, hv, hbl⟩
  obtain ⟨ao, cap, rfl⟩ := row_form hv
  exact ⟨ao, cap, rfl, hv, hbl, T.under hbl, T.same hbl⟩
theorem tr_live (T : Tw w0 w H hp k h q vt vp vs vo fb) : Calls Try.prog 23 #[rhv q vt vp vs vo] w fun e w' => ∃ ao cap, e = .returned (.slice ao (liveL h.s.ps).length cap) ∧ Hid (w'.ownsRow w.heap.size 3 1 (.slice ao (liveL h.s.ps).length cap) (liveL h.s.ps).length (addrs (liveL h.s.ps)) ∧ Below w.heap.size w w' ∧ Tw w0 w' H hp k h q vt vp vs vo fb ∧ Same fb w w') := by
  refine (rliveh_any T.rh T.sim).mono ?_
  rintro e w' ⟨v, rfl, hv, hbl⟩
  obtain ⟨ao, cap, rfl⟩ := row_form hv
  exact ⟨ao, cap, rfl, hv, hbl, T.under hbl, T.same hbl⟩
end
end Go.Proofs.Ytimpmgbahgganaa

namespace Go.Proofs.Ytimpmgbahgganaa
open Go.RowKit Go.Maps
/-- An operation of the script. -/
structure Op8D where
  k : Int
  x : Int
  y : Int
  vr : Value
  rs : List Int
/-- The script lies. -/
def Scr8 (w : World) (v : Value) (l : List Op8D) : Prop := ∃ ao cp, v = .slice ao l.length cp ∧ ∀ (j : Nat) (o : Op8D), l[j]? = some o → ∃ b off, ao = some ⟨b, off, none⟩ ∧ b < w.heap.size ∧ w.cell? ⟨b, off + j * 4, none⟩ = some (.int .i64 o.k) ∧ w.cell? ⟨b, off + j * 4 + 1, none⟩ = some (.int .i64 o.x) ∧ w.cell? ⟨b, off + j * 4 + 2, none⟩ = some (.int .i64 o.y) ∧ w.cell? ⟨b, off + j * 4 + 3, none⟩ = some o.vr ∧ IntsAt w o.vr o.rs ∧ o.rs.length ≤ 2000000 ∧ o.x ≤ 9223372036854775807 ∧ o.y ≤ 9223372036854775807
/-- A round's memory: both heaps, the box of the document's, the operation, the two answers. -/
structure Rd (w0 w : World) (H : Nat) (hp : Hs) (k : Nat) (h : Hs) (q : Rh) (vt vp vs vo : Value) (mb ob ab bb : Nat) (mc oc xa xb : Array Value) (ty : Nat) : Prop where
  T : Tw w0 w H hp k h q vt vp vs vo [bb, ab, ob, mb]
  bm : w.heap[mb]? = some (.cells mc 36 (0, 0))
  bo : w.heap[ob]? = some (.cells oc 39 (0, 0))
  ba : w.heap[ab]? = some (.cells xa ty (0, 0))
  b2 : w.heap[bb]? = some (.cells xb ty (0, 0))
  ne : mb ≠ ob ∧ mb ≠ ab ∧ mb ≠ bb ∧ ob ≠ ab ∧ ob ≠ bb ∧ ab ≠ bb
section
variable {w0 w w' : World} {H : Nat} {hp hp' h h' : Hs} {k k' : Nat} {q q' : Rh} {vt vp vs vo vp' vs' vo' : Value} {mb ob ab bb ty : Nat} {mc oc xa xb : Array Value}
theorem Rd.call (R : Rd w0 w H hp k h q vt vp vs vo mb ob ab bb mc oc xa xb ty) (T : Tw w0 w' H hp' k' h' q' vt vp' vs' vo' [bb, ab, ob, mb]) (S : Same [bb, ab, ob, mb] w w') : Rd w0 w' H hp' k' h' q' vt vp' vs' vo' mb ob ab bb mc oc xa xb ty :=
  ⟨T, (S mb (by simp)).trans R.bm, (S ob (by simp)).trans R.bo, (S ab (by simp)).trans R.ba, (S bb (by simp)).trans R.b2, R.ne⟩
theorem Rd.under (R : Rd w0 w H hp k h q vt vp vs vo mb ob ab bb mc oc xa xb ty) (hb : Below w.heap.size w w') : Rd w0 w' H hp k h q vt vp vs vo mb ob ab bb mc oc xa xb ty := R.call (R.T.under hb) (R.T.same hb)
theorem set_keep (w : World) (a : Addr) (u : Value) : (w.setCell a u).os = w.os ∧ (w.setCell a u).tape = w.tape ∧ (w.setCell a u).output = w.output ∧ w.heap.size = (w.setCell a u).heap.size := ⟨rfl, rfl, rfl, by simp⟩
theorem Rd.setA (R : Rd w0 w H hp k h q vt vp vs vo mb ob ab bb mc oc xa xb ty) (j : Nat) (u : Value) : Rd w0 (w.setCell ⟨ab, j, none⟩ u) H hp k h q vt vp vs vo mb ob ab bb mc oc (xa.setIfInBounds j u) xb ty := by
  obtain ⟨n1, n2, n3, n4, n5, n6⟩ := R.ne
  have o : ∀ g, g ≠ ab → (w.setCell ⟨ab, j, none⟩ u).heap[g]? = w.heap[g]? := fun g hg => Below.heap_setCell _ _ _ g hg
  exact ⟨R.T.set (b := ab) (by simp) (set_keep w _ u) o, (o _ n2).trans R.bm, (o _ n4).trans R.bo, heap_setCell_same w ab j u R.ba, (o _ (Ne.symm n6)).trans R.b2, R.ne⟩
theorem Rd.setB (R : Rd w0 w H hp k h q vt vp vs vo mb ob ab bb mc oc xa xb ty) (j : Nat) (u : Value) : Rd w0 (w.setCell ⟨bb, j, none⟩ u) H hp k h q vt vp vs vo mb ob ab bb mc oc xa (xb.setIfInBounds j u) ty := by
  obtain ⟨n1, n2, n3, n4, n5, n6⟩ := R.ne
  have o : ∀ g, g ≠ bb → (w.setCell ⟨bb, j, none⟩ u).heap[g]? = w.heap[g]? := fun g hg => Below.heap_setCell _ _ _ g hg
  exact ⟨R.T.set (b := bb) (by simp) (set_keep w _ u) o, (o _ n3).trans R.bm, (o _ n5).trans R.bo, (o _ n6).trans R.ba, heap_setCell_same w bb j u R.b2, R.ne⟩
theorem Rd.setM1 (R : Rd w0 w H hp k h q vt vp vs vo mb ob ab bb mc oc xa xb ty) (j : Nat) (u : Value) : Rd w0 (w.setCell ⟨mb, j, none⟩ u) H hp k h q vt vp vs vo mb ob ab bb (mc.setIfInBounds j u) oc xa xb ty := by
  obtain ⟨n1, n2, n3, n4, n5, n6⟩ := R.ne
  have o : ∀ g, g ≠ mb → (w.setCell ⟨mb, j, none⟩ u).heap[g]? = w.heap[g]? := fun g hg => Below.heap_setCell _ _ _ g hg
  exact ⟨R.T.set (b := mb) (by simp) (set_keep w _ u) o, heap_setCell_same w mb j u R.bm, (o _ (Ne.symm n1)).trans R.bo, (o _ (Ne.symm n2)).trans R.ba, (o _ (Ne.symm n3)).trans R.b2, R.ne⟩
theorem Rd.setM {a0 a1 a2 a3 a4 a5 a6 : Value} (R : Rd w0 w H hp k h q vt vp vs vo mb ob ab bb #[a0, a1, a2, a3, a4, a5, a6] oc xa xb ty) (v0 v1 v2 v3 v4 v5 v6 : Value) : Rd w0 (set7 w mb v0 v1 v2 v3 v4 v5 v6) H hp k h q vt vp vs vo mb ob ab bb #[v0, v1, v2, v3, v4, v5, v6] oc xa xb ty := by
  have R1 := R.setM1 0 v0
  rw [show (#[a0, a1, a2, a3, a4, a5, a6] : Array Value).setIfInBounds 0 v0 = #[v0, a1, a2, a3, a4, a5, a6] from rfl] at R1
  have R2 := R1.setM1 1 v1
  rw [show (#[v0, a1, a2, a3, a4, a5, a6] : Array Value).setIfInBounds 1 v1 = #[v0, v1, a2, a3, a4, a5, a6] from rfl] at R2
  have R3 := R2.setM1 2 v2
  rw [show (#[v0, v1, a2, a3, a4, a5, a6] : Array Value).setIfInBounds 2 v2 = #[v0, v1, v2, a3, a4, a5, a6] from rfl] at R3
  have R4 := R3.setM1 3 v3
  rw [show (#[v0, v1, v2, a3, a4, a5, a6] : Array Value).setIfInBounds 3 v3 = #[v0, v1, v2, v3, a4, a5, a6] from rfl] at R4
  have R5 := R4.setM1 4 v4
  rw [show (#[v0, v1, v2, v3, a4, a5, a6] : Array Value).setIfInBounds 4 v4 = #[v0, v1, v2, v3, v4, a5, a6] from rfl] at R5
  have R6 := R5.setM1 5 v5
  rw [show (#[v0, v1, v2, v3, v4, a5, a6] : Array Value).setIfInBounds 5 v5 = #[v0, v1, v2, v3, v4, v5, a6] from rfl] at R6
  have R7 := R6.setM1 6 v6
  rw [show (#[v0, v1, v2, v3, v4, v5, a6] : Array Value).setIfInBounds 6 v6 = #[v0, v1, v2, v3, v4, v5, v6] from rfl] at R7
  exact R7
end
end Go.Proofs.Ytimpmgbahgganaa

namespace Go.Proofs.Ytimpmgbahgganaa
open Go.RowKit Go.Maps
theorem plain_int : Try.prog.plainKey 3 = true := by kernel_rfl
theorem cells_int : Try.prog.cellsOf 3 = 1 := by kernel_rfl
theorem info_int : (Try.prog.info? 3).isSome = true := by kernel_rfl
theorem arr3_eq (w : World) (x0 x1 x2 : Int) : (Op.equalIn 10000 40 (.agg #[.int .i64 x0, .int .i64 x1, .int .i64 x2]) (.agg #[.int .i64 x0, .int .i64 x1, .int .i64 x2])).run Try.prog w = .ok true w := by
  obtain ⟨j, hj⟩ := Option.isSome_iff_exists.1 info_int
  rw [show (10000 : Nat) = 9998 + 1 + 1 from rfl, run_equalIn_array w (9998 + 1) _ _ Try.underlying40 hj, cells_int, show List.range 3 = [0, 1, 2] from rfl]
  have hq0 : ∀ (d : Nat) (x : Int), (Op.equalIn (d + 1) 3 (.int .i64 x) (.int .i64 x)).run Try.prog w = .ok true w := fun d x => by simp [Op.equalIn, run_underlying Try.underlying3]
  have hq := hq0 9998
  have p0 := run_part_plain w plain_int (xs := #[.int .i64 x0, .int .i64 x1, .int .i64 x2]) (off := 0 * 1) (v := .int .i64 x0) rfl
  have p1 := run_part_plain w plain_int (xs := #[.int .i64 x0, .int .i64 x1, .int .i64 x2]) (off := 1 * 1) (v := .int .i64 x1) rfl
  have p2 := run_part_plain w plain_int (xs := #[.int .i64 x0, .int .i64 x1, .int .i64 x2]) (off := 2 * 1) (v := .int .i64 x2) rfl
  simp only [Op.eqItems, Sem.run_bind, p0, p1, p2, hq, Result.andThen_ok, Bool.not_true, Bool.false_eq_true, if_false]
  rfl
end Go.Proofs.Ytimpmgbahgganaa
