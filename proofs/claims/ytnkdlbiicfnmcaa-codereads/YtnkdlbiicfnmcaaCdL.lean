/- Lists that lie in memory, and programs. -/
import Derived.Test.YtnkdlbiicfnmcaaCdCJt
namespace Go.Proofs.Ytnkdlbiicfnmcaa
open Go.RowKit
/-- A list that lies below B: k cells an item. -/
def SlAt {α : Type} (k : Nat) (P : World → List Value → α → Prop) (B : Nat) (w : World) (v : Value) (l : List α) : Prop :=
  ∃ ao cap, v = .slice ao l.length cap ∧ l.length ≤ 9223372036854775807 ∧ ∀ j x, l[j]? = some x → ∃ g o cs, ao = some ⟨g, o, none⟩ ∧ g < B ∧ (∀ r u, cs[r]? = some u → w.cell? ⟨g, o + j * k + r, none⟩ = some u) ∧ P w cs x
def IntP (_ : World) (cs : List Value) (n : Int) : Prop := cs = [.int .i64 n] ∧ -9223372036854775808 ≤ n ∧ n ≤ 9223372036854775807
def StrP (_ : World) (cs : List Value) (s : By) : Prop := cs = [.string ⟨s.toArray⟩]
def LstP (B : Nat) (w : World) (cs : List Value) (l : List Int) : Prop := ∃ v, cs = [v] ∧ SlAt 1 IntP B w v l
def InsP (_ : World) (cs : List Value) (i : In3) : Prop := cs = [.int .i64 i.o, .int .i64 i.a, .int .i64 i.b] ∧ (-9223372036854775808 ≤ i.o ∧ i.o ≤ 9223372036854775807) ∧ (-9223372036854775808 ≤ i.a ∧ i.a ≤ 9223372036854775807) ∧ (-9223372036854775808 ≤ i.b ∧ i.b ≤ 9223372036854775807)
def FdP (B : Nat) (w : World) (cs : List Value) (f : Fd) : Prop := ∃ v1 v2 v3 v4, cs = [.int .i64 f.pa, v1, v2, v3, v4] ∧ (-9223372036854775808 ≤ f.pa ∧ f.pa ≤ 9223372036854775807) ∧ SlAt 1 IntP B w v1 f.lo ∧ SlAt 1 IntP B w v2 f.re ∧ SlAt 1 IntP B w v3 f.ar ∧ SlAt 3 InsP B w v4 f.co
/-- A program lies: its four lists. -/
structure PgAt (B : Nat) (w : World) (v1 v2 v3 v4 : Value) (p : Pg) : Prop where
  ty : SlAt 1 (LstP B) B w v1 p.ty
  fu : SlAt 5 (FdP B) B w v2 p.fu
  ta : SlAt 1 (LstP B) B w v3 p.ta
  st : SlAt 1 StrP B w v4 p.st
section
variable {w w' : World} {B : Nat}
theorem SlAt.keep {α : Type} {k : Nat} {P P' : World → List Value → α → Prop} {v : Value} {l : List α} (R : SlAt k P B w v l) {B' : Nat} (hB : B ≤ B') (h : ∀ j, j < B → w'.heap[j]? = w.heap[j]?) (hP : ∀ cs x, P w cs x → P' w' cs x) : SlAt k P' B' w' v l := by
  obtain ⟨ao, cap, h1, h2, h3⟩ := R
  refine ⟨ao, cap, h1, h2, fun j x hx => ?_⟩
  obtain ⟨g, o, cs, h4, h5, h6, h7⟩ := h3 j x hx
  exact ⟨g, o, cs, h4, Nat.lt_of_lt_of_le h5 hB, fun r u hu => by rw [World.cell?_of_block (a := ⟨g, o + j * k + r, none⟩) (h g h5)]; exact h6 r u hu, hP cs x h7⟩
variable {B' : Nat} (hB : B ≤ B') (h : ∀ j, j < B → w'.heap[j]? = w.heap[j]?)
include hB h
theorem ints_keep {v : Value} {l : List Int} (R : SlAt 1 IntP B w v l) : SlAt 1 IntP B' w' v l := R.keep hB h fun _ _ h => h
theorem strs_keep {v : Value} {l : List By} (R : SlAt 1 StrP B w v l) : SlAt 1 StrP B' w' v l := R.keep hB h fun _ _ h => h
theorem ins_keep {v : Value} {l : List In3} (R : SlAt 3 InsP B w v l) : SlAt 3 InsP B' w' v l := R.keep hB h fun _ _ h => h
theorem lsts_keep {v : Value} {l : List (List Int)} (R : SlAt 1 (LstP B) B w v l) : SlAt 1 (LstP B') B' w' v l := R.keep hB h fun _ _ ⟨u, h1, h2⟩ => ⟨u, h1, ints_keep hB h h2⟩
theorem fds_keep {v : Value} {l : List Fd} (R : SlAt 5 (FdP B) B w v l) : SlAt 5 (FdP B') B' w' v l := R.keep hB h fun _ _ ⟨a, b, c, d, h1, h2, h3, h4, h5, h6⟩ => ⟨a, b, c, d, h1, h2, ints_keep hB h h3, ints_keep hB h h4, ints_keep hB h h5, ins_keep hB h h6⟩
theorem PgAt.keep {v1 v2 v3 v4 : Value} {p : Pg} (R : PgAt B w v1 v2 v3 v4 p) : PgAt B' w' v1 v2 v3 v4 p := ⟨lsts_keep hB h R.ty, fds_keep hB h R.fu, lsts_keep hB h R.ta, strs_keep hB h R.st⟩
end
theorem Stp.sameB {X X' : Wx} {w w' : World} {out : By} (L : Wl X w out) (S : Stp X X' w w') : ∀ j, j < X.B → w'.heap[j]? = w.heap[j]? :=
  fun j hj => S.block j (Nat.lt_of_lt_of_le hj L.hB) (fun hy => by have := (L.own_lt hy).1; omega)
theorem loopW_long {α : Type} {F : By → α → By} {l : List α} {out : By} (h : ¬ out.length ≤ MB) : loopW F l out = out := by
  cases l with
  | nil => rfl
  | cons x r => unfold loopW; rw [if_neg h]
theorem loopW_step {α : Type} {F : By → α → By} {l : List α} {out : By} {j : Nat} {x : α} (h : out.length ≤ MB) (hx : l[j]? = some x) : loopW F (l.drop j) out = loopW F (l.drop (j + 1)) (F out x) := by
  have hj := get_lt hx
  rw [List.drop_eq_getElem_cons hj]
  rw [List.getElem?_eq_getElem hj, Option.some.injEq] at hx
  subst hx
  rw [loopW, if_pos h]
/-- The loop through a list that is written. -/
def LsR {α : Type} (X : Wx) (w1 : World) (F : By → α → By) (l : List α) (out : By) (k : Nat) (a : Value) (wr : World) : Prop :=
  ∃ (j : Nat) (Y : Wx) (o2 : By), a = .int .i64 j ∧ j ≤ l.length ∧ loopW F (l.drop j) o2 = loopW F l out ∧ Wl Y wr o2 ∧ Stp X Y w1 wr ∧ wr.heap[k]? = some (.cells #[X.i] 48 (0, 0))
section
variable {X : Wx} {w w0 : World} {out : By} {B g o : Nat} {cs : List Value} {i k : Nat}
theorem witem_cell (hg : g < B) (hk : ∀ j, j < B → w.heap[j]? = w0.heap[j]?) (hcs : ∀ r u, cs[r]? = some u → w0.cell? ⟨g, o + i * k + r, none⟩ = some u) : ∀ r u, cs[r]? = some u → w.cell? ⟨g, o + i * k + r, none⟩ = some u := fun r u hu => by
  rw [World.cell?_of_block (a := ⟨g, o + i * k + r, none⟩) (hk g hg)]; exact hcs r u hu
theorem witem_N {n : Int} (L : Wl X w out) (_hB : B ≤ X.B) (hg : g < B) (hk : ∀ j, j < B → w.heap[j]? = w0.heap[j]?) (hcs : ∀ r u, cs[r]? = some u → w0.cell? ⟨g, o + i * k + r, none⟩ = some u) (hP : IntP w0 cs n) (hm : out.length ≤ 4200000) :
    Calls Try.prog 62 #[X.p, .pointer (some ⟨g, o + i * k, none⟩)] w fun e w' => e = .returned (.tuple #[]) ∧ ∃ X', Wl X' w' (numW out n) ∧ Stp X X' w w' := by
  obtain ⟨rfl, h1, h2⟩ := hP
  exact number_any L (witem_cell hg hk hcs 0 _ rfl) h1 h2 (by omega)
theorem witem_S {s : By} (L : Wl X w out) (hB : B ≤ X.B) (hg : g < B) (hk : ∀ j, j < B → w.heap[j]? = w0.heap[j]?) (hcs : ∀ r u, cs[r]? = some u → w0.cell? ⟨g, o + i * k + r, none⟩ = some u) (hP : StrP w0 cs s) (hm : out.length ≤ 4200000) (hs : s.length ≤ 1024) :
    Calls Try.prog 63 #[X.p, .pointer (some ⟨g, o + i * k, none⟩)] w fun e w' => e = .returned (.tuple #[]) ∧ ∃ X', Wl X' w' (strW out s) ∧ Stp X X' w w' := by
  obtain rfl := hP
  exact text_any L (witem_cell hg hk hcs 0 _ rfl) (show g < X.B from Nat.lt_of_lt_of_le hg hB) hs (by omega)
end
theorem wrap_next {j n : Nat} (h : j < n) (hn : n ≤ 9223372036854775807) : wrap64 ((j : Int) + 1) = ((j + 1 : Nat) : Int) := by
  have h1 : (j : Int) < 9223372036854775807 := by omega
  clear h hn
  go_arith
theorem num_next {j n : Nat} (h : j < n) (hn : n ≤ 9223372036854775807) : Value.int .i64 (wrap64 ((j : Int) + 1)) = .int .i64 ((j + 1 : Nat) : Int) := by rw [wrap_next h hn]
theorem meas_next {j n : Nat} (h : j < n) (hn : n ≤ 9223372036854775807) : n - (wrap64 ((j : Int) + 1)).toNat < n - j := by rw [wrap_next h hn, Int.toNat_natCast]; omega
theorem intOf_int (x : Int) : intOf (Value.int .i64 x) = x := rfl
theorem meas_int {j n : Nat} (h : j < n) (hn : n ≤ 9223372036854775807) : n - (intOf (Value.int .i64 (wrap64 ((j : Int) + 1)))).toNat < n - (intOf (Value.int .i64 (j : Int))).toNat := by
  rw [wrap_next h hn, intOf_int, intOf_int, Int.toNat_natCast, Int.toNat_natCast]
  omega
theorem up_next {a b m c : Nat} (h1 : a ≤ m) (h2 : b ≤ max a m + c) (o : Nat) : b ≤ max o (m + c) := by omega
end Go.Proofs.Ytnkdlbiicfnmcaa
