/- GcKeeps: whom each object links to. -/
import Derived.Test.YtfhaiopgnllknaaKpD
namespace Go.Proofs.Ytfhaiopgnllknaa
open Go.RowKit Go.Maps

def nats (l : List Nat) : List Int := l.map fun (n : Nat) => (n : Int)
/-- The lists when the first i objects' links are known, and k words of the next one's. -/
def T3 (wl : List Int) (i k : Nat) : Nat → List Int := fun j => if j = 20 then ats 20 else if j < i then nats (tl wl j 6) else if j = i then nats (tl wl i k) else []
theorem T3_new (wl : List Int) : T1 20 = T3 wl 0 0 := by
  funext j
  unfold T1 T3 upd
  by_cases e : j = 20
  · rw [if_pos e, if_pos e]
  · rw [if_neg e, if_neg e, if_neg (by omega)]
    split <;> rfl
theorem T3_next (wl : List Int) (i : Nat) : T3 wl i 6 = T3 wl (i + 1) 0 := by
  funext j
  unfold T3
  by_cases e : j = 20
  · rw [if_pos e, if_pos e]
  · rw [if_neg e, if_neg e]
    by_cases h1 : j < i
    · rw [if_pos h1, if_pos (by omega)]
    · rw [if_neg h1]
      by_cases h2 : j = i
      · subst h2; rw [if_pos rfl, if_pos (by omega)]
      · rw [if_neg h2, if_neg (by omega)]
        split <;> rfl
theorem T3_at (wl : List Int) (i k : Nat) : T3 wl i k 20 = ats 20 := if_pos rfl
theorem T3_self (wl : List Int) {i : Nat} (k : Nat) (hi : i < 20) : T3 wl i k i = nats (tl wl i k) := by
  unfold T3
  rw [if_neg (by omega), if_neg (by omega), if_pos rfl]
/-- .. and of that word it is known of the first n objects. -/
def T4 (wl : List Int) (i k n : Nat) : Nat → List Int := upd (T3 wl i k) i (nats (tl wl i k ++ if ((wl.getD (6 * i + k) 0).toNat - 1) / 6 < n then one (wl.getD (6 * i + k) 0) else []))
theorem upd_self {α : Type} (f : Nat → α) (c : Nat) {v : α} (h : f c = v) : upd f c v = f := by
  funext d
  unfold upd
  split
  · rename_i e; rw [e, h]
  · rfl
theorem T4_at (wl : List Int) {i : Nat} (k n : Nat) (hi : i < 20) : T4 wl i k n 20 = ats 20 := by
  unfold T4
  rw [upd_other _ _ (by omega)]; exact T3_at wl i k
theorem T4_new (wl : List Int) {i : Nat} (k : Nat) (hi : i < 20) : T4 wl i k 0 = T3 wl i k := by
  unfold T4
  rw [if_neg (by omega), List.append_nil]
  exact upd_self _ _ (T3_self wl k hi)
theorem T4_done {wl : List Int} (L : Wl wl) {i k : Nat} (hi : i < 20) : T4 wl i k 20 = T3 wl i (k + 1) := by
  have hw := L.word (6 * i + k)
  unfold T4
  rw [if_pos (by omega)]
  funext j
  by_cases e : j = i
  · subst e
    rw [upd_same, T3_self wl (k + 1) hi]; rfl
  · rw [upd_other _ _ e]
    unfold T3
    rw [if_neg e, if_neg e]
theorem T4_none {wl : List Int} (L : Wl wl) {i k n : Nat} (h : ¬ (((6 * n + 1 : Nat) : Int) ≤ wl.getD (6 * i + k) 0 ∧ wl.getD (6 * i + k) 0 < ((6 * n + 7 : Nat) : Int))) : T4 wl i k (n + 1) = T4 wl i k n := by
  have hw := L.word (6 * i + k)
  unfold T4 one
  generalize wl.getD (6 * i + k) 0 = x at *
  by_cases h1 : 1 ≤ x
  · rw [if_pos h1]
    by_cases h2 : (x.toNat - 1) / 6 < n
    · rw [if_pos h2, if_pos (by omega)]
    · rw [if_neg h2, if_neg (by omega)]
  · rw [if_neg h1]; simp
theorem T4_some {wl : List Int} {i k n : Nat} (h1 : ((6 * n + 1 : Nat) : Int) ≤ wl.getD (6 * i + k) 0) (h2 : wl.getD (6 * i + k) 0 < ((6 * n + 7 : Nat) : Int)) : T4 wl i k (n + 1) = upd (T4 wl i k n) i (T4 wl i k n i ++ [(n : Int)]) := by
  have e : T4 wl i k n i = nats (tl wl i k) := by
    unfold T4
    rw [upd_same, if_neg (by omega), List.append_nil]
  rw [e]
  unfold T4
  rw [upd_upd, if_pos (by omega)]
  congr 1
  unfold one
  rw [if_pos (by omega)]
  have : ((wl.getD (6 * i + k) 0).toNat - 1) / 6 = n := by omega
  rw [this]
  simp [nats]
theorem T4_len {wl : List Int} {i k n : Nat} (hk : k ≤ 6) : (T4 wl i k n i).length < 1000000000 := by
  unfold T4
  rw [upd_same]
  have h1 := tl_len wl i k
  have h2 : (if ((wl.getD (6 * i + k) 0).toNat - 1) / 6 < n then one (wl.getD (6 * i + k) 0) else []).length ≤ 1 := by
    split
    · unfold one; split <;> simp
    · simp
  simp only [nats, List.length_map, List.length_append]
  omega
/-- The law's memory while the links are read. -/
structure Jt (W wr : World) (H gT gW : Nat) (h : Hs) (wl : List Int) (va : Value) (T : Nat → List Int) : Prop where
  ex : ∃ (vs : Nat → Value) (cur : Array Value), vs 20 = va ∧ (∀ j, 20 < j → vs j = nilv) ∧ Me W wr H h 40 [gW, gT] vs T ∧ wr.heap[gT]? = some (.cells cur 31 (0, 0)) ∧ cur.size = 20 ∧ ∀ j, j < 20 → cur[j]? = some (vs j)
  word : wr.heap[gW]? = some (.cells (ints wl).toArray 3 (0, 0))
section
variable {W wr : World} {H gT gW : Nat} {h : Hs} {wl : List Int} {va : Value} {T : Nat → List Int}
theorem Jt.new {vs : Nat → Value} (hv : ∀ j, j ≠ 20 → vs j = nilv) (hva : vs 20 = va) (M : Me W wr H h 40 [gW, gT] vs (T1 20)) (bW : wr.heap[gW]? = some (.cells (ints wl).toArray 3 (0, 0))) (bT : wr.heap[gT]? = some (.cells (Array.replicate 20 nilv) 31 (0, 0))) : Jt W wr H gT gW h wl va (T3 wl 0 0) := by
  rw [T3_new wl] at M
  refine ⟨⟨vs, _, hva, fun j hj => hv j (by omega), M, bT, by simp, fun j hj => ?_⟩, bW⟩
  rw [hv j (by omega), Array.getElem?_replicate, if_pos hj]
theorem Jt.addr (J : Jt W wr H gT gW h wl va T) (hT : T 20 = ats 20) {g off cap j : Nat} (hv : va = .slice (some ⟨g, off, none⟩) 20 cap) (hj : j < 20) : wr.cell? ⟨g, off + j, none⟩ = some (.int .i64 ((6 * j + 1 : Nat) : Int)) := by
  obtain ⟨vs, cur, h1, _, M, _⟩ := J.ex
  exact M.addr hT (h1.trans hv) hj
/-- One more link of an object. -/
theorem Jt.push (J : Jt W wr H gT gW h wl va T) (hne : gW = gT + 1) {i : Nat} (hi : i < 20) (n : Int) (hl : (T i).length < 1000000000) :
    ∃ v ao len cap w', wr.cell? ⟨gT, i, none⟩ = some v ∧ (Builtin.append_ #[31, 31] 31 #[v, .slice (some ⟨wr.heap.size, 0, none⟩) 1 1]).run Try.prog (wr.alloc (.cells #[.int .i64 n] 3)) = .ok (.slice ao len cap) w' ∧ w'.cell? ⟨gT, i, none⟩ = some v ∧ w'.frozen? ⟨gT, i, none⟩ = false ∧
      Hid (Jt W (w'.setCell ⟨gT, i, none⟩ (.slice ao len cap)) H gT gW h wl va (upd T i (T i ++ [n]))) := by
  obtain ⟨vs, cur, h1, h2, M, h3, h4, h5⟩ := J.ex
  obtain ⟨v', w', hr, M', S⟩ := M.app1 i n hl
  obtain ⟨ao, cap, hv'⟩ := (M'.q i).len
  rw [upd_same, upd_same] at hv'
  have h3' := (S gT (by simp)).trans h3
  subst hv'
  obtain ⟨M2, S2⟩ := M'.store (g := gT) (by simp) i (.slice ao (T i ++ [n]).length cap)
  refine ⟨vs i, ao, _, cap, w', by simp [World.cell?, h3, h5 i hi], hr, by simp [World.cell?, h3', h5 i hi], by simp [World.frozen?, h3'], ⟨⟨_, _, ?_, fun j hj => ?_, M2, heap_setCell_same w' gT i _ h3', by simp [h4], fun j hj => ?_⟩, ?_⟩⟩
  · rw [upd_other _ _ (by omega)]; exact h1
  · rw [upd_other _ _ (by omega)]; exact h2 j hj
  · rw [Array.getElem?_setIfInBounds]
    by_cases e : i = j
    · subst e; rw [if_pos rfl, if_pos (by omega), upd_same]
    · rw [if_neg e, upd_other _ _ (fun e2 => e e2.symm)]; exact h5 j hj
  · rw [S2 gW (by omega), S gW (by simp)]; exact J.word
end
end Go.Proofs.Ytfhaiopgnllknaa
