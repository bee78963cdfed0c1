/- A type's text: plain, the builder, and the program's write, writeList, writeResults. -/
import Derived.Test.YtbejkphekfbfnaaGreatTyG
import Derived.Test.YtbejkphekfbfnaaGreatTyS
import Derived.Shelf.Strings.BuilderK
import Derived.Lib.OthersKept
namespace Go.Proofs.YtbejkphekfbfnaaGreat
open Go.RowKit
attribute [local go_sem ↓] Go.wp_at_zero Go.wp_at_succ

def rowP (f : Tr → List UInt8) : List Tr → List UInt8
  | [] => []
  | t :: ts => f t ++ ts.flatMap fun u => [44, 32] ++ f u
def resP (f : Tr → List UInt8) (ts : List Tr) : List UInt8 :=
  if ts.length = 0 then [] else if ts.length = 1 then [32] ++ rowP f ts else [32, 40] ++ (rowP f ts ++ [41])
/-- The text of a type that is so deep. -/
def txtN : Nat → Tr → List UInt8
  | 0, _ => []
  | n + 1, t =>
    if t.kind == 1 then [105, 110, 116] else if t.kind == 2 then [98, 111, 111, 108] else if t.kind == 3 then [115, 116, 114, 105, 110, 103] else if t.kind == 8 then [110, 105, 108]
    else if t.kind == 4 then t.text
    else if t.kind == 5 then [42] ++ rowP (txtN n) t.kids
    else if t.kind == 6 then [91, 93] ++ rowP (txtN n) t.kids
    else [102, 117, 110, 99, 40] ++ (rowP (txtN n) (t.kids.take t.num.toNat) ++ ([41] ++ resP (txtN n) (t.kids.drop t.num.toNat)))
theorem rowP_snoc (f : Tr → List UInt8) (t : Tr) (ts : List Tr) (a : Tr) : rowP f ((t :: ts) ++ [a]) = rowP f (t :: ts) ++ ([44, 32] ++ f a) := by
  simp [rowP]
theorem rowP_take (f : Tr → List UInt8) {ts : List Tr} {j : Nat} {a : Tr} (h : ts[j]? = some a) : rowP f (ts.take (j + 1)) = rowP f (ts.take j) ++ ((if j = 0 then [] else [44, 32]) ++ f a) := by
  rw [List.take_add_one, h]
  cases j with
  | zero => simp [rowP]
  | succ j =>
    cases ts with
    | nil => simp at h
    | cons t ts =>
      simp only [List.take_succ_cons, Option.toList_some, if_neg (Nat.succ_ne_zero j)]
      rw [rowP_snoc]
theorem rowP_len {f : Tr → List UInt8} : ∀ {ts : List Tr}, (∀ t ∈ ts, (f t).length + 2 ≤ 80 * cntN t) → (rowP f ts).length ≤ 80 * cntNL ts
  | [], _ => by simp [rowP]
  | t :: ts, h => by
    have h1 := h t (by simp)
    have h2 : ∀ us : List Tr, (∀ t ∈ us, (f t).length + 2 ≤ 80 * cntN t) → (us.flatMap fun u => [44, 32] ++ f u).length ≤ 80 * cntNL us := by
      intro us
      induction us with
      | nil => intro _; simp
      | cons u us ih =>
        intro hu
        have h3 := ih fun t ht => hu t (by simp [ht])
        have h4 := hu u (by simp)
        simp only [List.flatMap_cons, List.length_append, cntNL, List.length_cons, List.length_nil] at *
        omega
    have h5 := h2 ts fun t ht => h t (by simp [ht])
    simp only [rowP, List.length_append, cntNL]
    omega
theorem resP_len {f : Tr → List UInt8} {ts : List Tr} (h : ∀ t ∈ ts, (f t).length + 2 ≤ 80 * cntN t) : (resP f ts).length ≤ 80 * cntNL ts + 3 := by
  have h1 := rowP_len h
  unfold resP
  split
  · simp
  · split
    · simp; omega
    · simp; omega
theorem formL_mem : ∀ {ts : List Tr} {t : Tr}, formL ts = true → t ∈ ts → formT t = true
  | u :: ts, t, h, hm => by
    simp only [formL, Bool.and_eq_true] at h
    rcases List.mem_cons.1 hm with rfl | hm
    · exact h.1.2
    · exact formL_mem h.2 hm
theorem depNL_mem : ∀ {ts : List Tr} {t : Tr}, t ∈ ts → depN t ≤ depNL ts
  | u :: ts, t, h => by
    rcases List.mem_cons.1 h with rfl | h
    · simp only [depNL]; omega
    · have := depNL_mem h; simp only [depNL]; omega
theorem nameP_len {s : List UInt8} (h : nameP s = true) : s.length ≤ 64 := by
  unfold nameP at h
  split at h
  · cases h
  · omega
theorem cut_cnt (ks : List Tr) (k : Nat) : cntNL (ks.take k) + cntNL (ks.drop k) = cntNL ks := by
  rw [← cntNL_append, List.take_append_drop]
theorem txtN_len : ∀ (n : Nat) (t : Tr), formT t = true → (txtN n t).length + 2 ≤ 80 * cntN t
  | 0, .mk k s m ks, _ => by simp only [txtN, cntN, List.length_nil]; omega
  | n + 1, .mk k s m ks, h => by
    simp only [formT, Bool.and_eq_true] at h
    have hk : ∀ t ∈ ks, (txtN n t).length + 2 ≤ 80 * cntN t := fun t ht => txtN_len n t (formL_mem h.2 ht)
    have h1 := rowP_len hk
    have h2 := rowP_len (f := txtN n) (ts := ks.take m.toNat) fun t ht => hk t (List.mem_of_mem_take ht)
    have h3 := resP_len (f := txtN n) (ts := ks.drop m.toNat) fun t ht => hk t (List.mem_of_mem_drop ht)
    have h4 := cut_cnt ks m.toNat
    simp only [cntN]
    by_cases e1 : k = 1
    · subst e1; simp [txtN, Tr.kind]; omega
    by_cases e2 : k = 2
    · subst e2; simp [txtN, Tr.kind]; omega
    by_cases e3 : k = 3
    · subst e3; simp [txtN, Tr.kind]; omega
    by_cases e8 : k = 8
    · subst e8; simp [txtN, Tr.kind]; omega
    by_cases e4 : k = 4
    · subst e4
      have ho := h.1
      simp [ownP, freeP] at ho
      have := nameP_len ho.1.2
      simp [txtN, Tr.kind, Tr.text]; omega
    by_cases e5 : k = 5
    · subst e5; simp [txtN, Tr.kind, Tr.kids]; omega
    by_cases e6 : k = 6
    · subst e6; simp [txtN, Tr.kind, Tr.kids]; omega
    simp [txtN, Tr.kind, Tr.kids, Tr.num, e1, e2, e3, e4, e5, e6, e8]; omega

/-- The builder in block b holds this text; all its memory lies from B on. -/
def Bd (B b : Nat) (l : List UInt8) (w : World) : Prop := Lib.IsBuilderF 52 5 B b (Lib.byteCells l) w
/-- What writing leaves as it was. -/
structure Fb (B b : Nat) (w W : World) : Prop where
  bel : Below B w W
  kept : Lib.OthersKept 5 (some b) w W
theorem Fb.refl (B b : Nat) (w : World) : Fb B b w w := ⟨Below.refl _ _, Lib.OthersKept.refl _ _ _⟩
theorem Fb.trans {B b : Nat} {u v w : World} (h : Fb B b u v) (k : Fb B b v w) : Fb B b u w := ⟨h.bel.trans k.bel, h.kept.trans k.kept⟩
theorem Fb.of_below {B b : Nat} {w W : World} (hB : B ≤ w.heap.size) (h : Below w.heap.size w W) : Fb B b w W :=
  ⟨h.mono hB, fun k o hk _ _ => by
    have hlt : k < w.heap.size := (Array.getElem?_eq_some_iff.1 hk).1
    exact (h.block k hlt).trans hk⟩
theorem Bd.below {B b : Nat} {l : List UInt8} {w W : World} (h : Bd B b l w) (hb : Below w.heap.size w W) : Bd B b l W := by
  have key : ∀ p, Lib.BuilderAtF 52 5 B b p (Lib.byteCells l) w → Lib.BuilderAtF 52 5 B b p (Lib.byteCells l) W := by
    intro p h
    obtain ⟨hB, v, hbk, hown, hne⟩ := h
    refine ⟨hB, v, (hb.block b (lt_of_block hbk)).trans hbk, ⟨hown.1, ?_⟩, hne⟩
    rcases hown.2 with h0 | ⟨g, cap, cur, fz, hv, hBg, hg, r⟩
    · exact .inl h0
    · exact .inr ⟨g, cap, cur, fz, hv, hBg, (hb.block g (lt_of_block hg)).trans hg, r⟩
  rcases h with h | h
  · exact .inl (key _ h)
  · exact .inr (key _ h)
theorem Bd.alloc {B b : Nat} {l : List UInt8} {w : World} (h : Bd B b l w) (o : Obj) : Bd B b l (w.alloc o) := h.below ((Below.refl _ _).alloc (Nat.le_refl _) _)
theorem Bd.lt {B b : Nat} {l : List UInt8} {w : World} (h : Bd B b l w) : B ≤ b ∧ b < w.heap.size := by
  rcases h with ⟨hB, v, hbk, _⟩ | ⟨hB, v, hbk, _⟩
  · exact ⟨hB, lt_of_block hbk⟩
  · exact ⟨hB, lt_of_block hbk⟩
theorem ws_any (B b : Nat) (l s : List UInt8) (w : World) (h : Bd B b l w) (hlen : l.length + s.length ≤ 100000000) (hB : B ≤ w.heap.size) :
    Calls Tryz.prog 75 #[.pointer (some ⟨b, 0, none⟩), .string ⟨s.toArray⟩] w fun e w' => e = .returned (.tuple #[.int .i64 s.length, .nilIface]) ∧ Fb B b w w' ∧ Bd B b (l ++ s) w' := by
  refine (Any.Builder_WriteString_k Tryz.lays166 Tryz.Builder_Extra_166 B b (Lib.byteCells l) ⟨s.toArray⟩ w h (by simp [Lib.byteCells, ByteArray.size]; omega) hB).mono ?_
  rintro e w' ⟨h1, h2, h3, h4⟩
  refine ⟨by simpa [ByteArray.size] using h1, ⟨h3, h4⟩, .inr ?_⟩
  have e2 : Lib.byteCells l ++ Lib.strCells ⟨s.toArray⟩ = Lib.byteCells (l ++ s) := by rw [show Lib.strCells ⟨s.toArray⟩ = Lib.byteCells s from rfl]; simp [Lib.byteCells]
  rw [e2] at h2
  exact h2
theorem bstr_any (B b : Nat) (l : List UInt8) (w : World) (h : Bd B b l w) (hB : B ≤ w.heap.size) :
    Calls Tryz.prog 40 #[.pointer (some ⟨b, 0, none⟩)] w fun e w' => e = .returned (.string ⟨l.toArray⟩) ∧ Fb B b w w' :=
  (Any.Builder_String_any_k Tryz.lays169 Tryz.Builder_Extra_169 B b l w h hB).mono fun _ _ ⟨h1, _, h3, h4⟩ => ⟨h1, h3, h4⟩
/-- A box of a type stays what it is. -/
theorem Fb.box {B b m : Nat} {w W : World} {c : Array Value} (h : Fb B b w W) (hb : m ≠ b) (hm : w.heap[m]? = some (.cells c 27 (0, 0))) : W.heap[m]? = some (.cells c 27 (0, 0)) :=
  h.kept m _ hm (by simpa using hb) (fun c f e => by injection e with _ h2 _; revert h2; decide)
end Go.Proofs.YtbejkphekfbfnaaGreat
