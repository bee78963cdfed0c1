/- What is read, in memory; the loop through a list. -/
import Derived.Test.YtnkdlbiicfnmcaaCdR3
namespace Go.Proofs.Ytnkdlbiicfnmcaa
open Go.RowKit
def RLst (w : World) (cs : List Value) (l : List Int) : Prop := ∃ v, cs = [v] ∧ RowP 3 1 IntP 0 w v l
def RFd (w : World) (cs : List Value) (f : Fd) : Prop := ∃ v1 v2 v3 v4, cs = [.int .i64 f.pa, v1, v2, v3, v4] ∧ (-9223372036854775808 ≤ f.pa ∧ f.pa ≤ 9223372036854775807) ∧ RowP 3 1 IntP 0 w v1 f.lo ∧ RowP 3 1 IntP 0 w v2 f.re ∧ RowP 3 1 IntP 0 w v3 f.ar ∧ RowP 60 3 InsP 0 w v4 f.co
theorem RowP.base0 {α : Type} {T k B : Nat} {P : World → List Value → α → Prop} {w : World} {v : Value} {l : List α} (h : RowP T k P B w v l) : RowP T k P 0 w v l := by
  obtain ⟨xs, ⟨h1, h2⟩, h3⟩ := h
  refine ⟨xs, ⟨h1, ?_⟩, h3⟩
  rcases h2 with h2 | ⟨g, cap, cur, e1, _, e3⟩
  · exact .inl h2
  · exact .inr ⟨g, cap, cur, e1, Nat.zero_le _, e3⟩
theorem RowP.keep {α : Type} {T k B : Nat} {P : World → List Value → α → Prop} {w w' : World} {v : Value} {l : List α} {ts : List Nat} (h : RowP T k P B w v l) (hP : KeepX ts P) (hT : T ∉ ts) (hs : SmX ts w w') : RowP T k P B w' v l := by
  obtain ⟨xs, h1, h2⟩ := h
  refine ⟨xs, ownsRow_keep h1 fun g hg => ?_, h2.keep hP hs⟩
  rcases h1.2 with ⟨h3, _⟩ | ⟨q, _, cur, h3, _, h4, _⟩
  · rw [h3] at hg; cases hg
  · rw [h3] at hg; cases hg; exact hs _ _ _ _ h4 hT
theorem int_keep (ts : List Nat) : KeepX ts IntP := fun _ _ _ _ _ h => h
theorem str_keep (ts : List Nat) : KeepX ts StrP := fun _ _ _ _ _ h => h
theorem insp_keep (ts : List Nat) : KeepX ts InsP := fun _ _ _ _ _ h => h
theorem rlst_keep {ts : List Nat} (h : 3 ∉ ts) : KeepX ts RLst := fun _ _ _ _ hs ⟨v, h1, h2⟩ => ⟨v, h1, h2.keep (int_keep ts) h hs⟩
theorem rfd_keep {ts : List Nat} (h : 3 ∉ ts) (h' : 60 ∉ ts) : KeepX ts RFd := fun _ _ _ _ hs ⟨a, b, c, d, h1, h2, h3, h4, h5, h6⟩ => ⟨a, b, c, d, h1, h2, h3.keep (int_keep ts) h hs, h4.keep (int_keep ts) h hs, h5.keep (int_keep ts) h hs, h6.keep (insp_keep ts) h' hs⟩
theorem Try.info3 : (Try.prog.info? 3).map (fun i => (i.zero, i.size, i.bytes)) = some (some (.int .i64 0), 1, 8) := by kernel_rfl
theorem Try.info9 : (Try.prog.info? 9).map (fun i => (i.zero, i.size, i.bytes)) = some (some (.string ⟨#[]⟩), 1, 16) := by kernel_rfl
theorem Try.info53 : (Try.prog.info? 53).map (fun i => (i.zero, i.size, i.bytes)) = some (some (.slice none 0 0), 1, 24) := by kernel_rfl
theorem Try.info55 : (Try.prog.info? 55).map (fun i => (i.zero, i.size, i.bytes)) = some (some (.agg #[.slice none 0 0]), 1, 24) := by kernel_rfl
theorem Try.info60 : (Try.prog.info? 60).map (fun i => (i.zero, i.size, i.bytes)) = some (some (.agg #[.int .i64 0, .int .i64 0, .int .i64 0]), 3, 24) := by kernel_rfl
theorem Try.info58 : (Try.prog.info? 58).map (fun i => (i.zero, i.size, i.bytes)) = some (some (.agg #[.int .i64 0, .slice none 0 0, .slice none 0 0, .slice none 0 0, .slice none 0 0]), 5, 104) := by kernel_rfl
theorem info_parts {T : Nat} {a : Option Value} {b c : Nat} (h : (Try.prog.info? T).map (fun i => (i.zero, i.size, i.bytes)) = some (a, b, c)) : ∃ i0, Try.prog.info? T = some i0 ∧ i0.zero = a ∧ i0.size = b ∧ i0.bytes = c := by
  cases hi : Try.prog.info? T with
  | none => rw [hi] at h; cases h
  | some i0 =>
    rw [hi] at h
    simp only [Option.map_some, Option.some.injEq, Prod.mk.injEq] at h
    exact ⟨i0, rfl, h.1, h.2.1, h.2.2⟩
theorem loopR_bad {α : Type} (it : Rs → α × Rs) (n : Nat) {s : Rs} (h : s.bad = true) : loopR it n s = ([], s) := by
  cases n with
  | zero => rfl
  | succ n => unfold loopR; rw [if_pos h]
theorem loopR_next {α : Type} (it : Rs → α × Rs) {n : Nat} {s : Rs} (h : s.bad = false) : loopR it (n + 1) s = ((it s).1 :: (loopR it n (it s).2).1, (loopR it n (it s).2).2) := by
  rw [loopR, if_neg (by rw [h]; decide)]
abbrev ri (A : Nat) : Value := .iface 69 (.pointer (some ⟨A, 0, none⟩))
abbrev rp (A : Nat) : Value := .pointer (some ⟨A, 0, none⟩)
/-- The loop through a list that is read. -/
def RdR {α : Type} (T k : Nat) (P : World → List Value → α → Prop) (it : Rs → α × Rs) (B A g o : Nat) (w : World) (n : Nat) (s0 : Rs) (a : Value) (wr : World) : Prop :=
  ∃ (s1 : Rs) (l : List α) (v : Value), a = .int .i64 (l.length : Nat) ∧ l.length ≤ n ∧ RowP T k P w.heap.size wr v l ∧ Rl B A wr s1 ∧ RPut A g o [v] w wr ∧ wr.heap[w.heap.size]? = some (.cells #[ri A] 48 (0, 0)) ∧ (s1 = failS ∨ l.length + s1.rest.length ≤ MB) ∧
    (l ++ (loopR it (n - l.length) s1).1, (loopR it (n - l.length) s1).2) = loopR it n s0
/-- What an item owes. -/
def RItem {α : Type} (k : Nat) (P : World → List Value → α → Prop) (it : Rs → α × Rs) (f : Nat) (args : Value → Array Value) (B A g o : Nat) (w : World) (s : Rs) : Prop :=
  Calls Try.prog f (args (.pointer (some ⟨g, o, none⟩))) w fun e w' => e = .returned (.tuple #[]) ∧ ∃ cs, cs.length = k ∧ Rl B A w' (it s).2 ∧ P w' cs (it s).1 ∧ RPut A g o cs w w'
section
variable {B A : Nat} {w w' : World} {s : Rs} {g o : Nat} {c : Array Value}
theorem ritem_N (L : Rl B A w s) (hl : s.rest.length ≤ MB) {t : TypeId} (hc : w.heap[g]? = some (.cells c t (0, 0))) (hg : B ≤ g) (hA : g ≠ A) (ho : o + 1 ≤ c.size) :
    RItem 1 IntP numR 68 (fun p => #[rp A, p]) B A g o w s := by
  refine (rnumber_any L hl hc hg hA (by omega)).mono ?_
  rintro e w' ⟨rfl, h1, h2⟩
  exact ⟨rfl, _, rfl, h1, ⟨rfl, numR_in s⟩, h2⟩
theorem ritem_S (L : Rl B A w s) (hl : s.rest.length ≤ MB) {t : TypeId} (hc : w.heap[g]? = some (.cells c t (0, 0))) (hg : B ≤ g) (hA : g ≠ A) (ho : o + 1 ≤ c.size) :
    RItem 1 StrP strR 69 (fun p => #[rp A, p]) B A g o w s := by
  refine (rtext_any L hl hc hg hA (by omega)).mono ?_
  rintro e w' ⟨rfl, h1, h2⟩
  exact ⟨rfl, _, rfl, h1, rfl, h2⟩
end
end Go.Proofs.Ytnkdlbiicfnmcaa
