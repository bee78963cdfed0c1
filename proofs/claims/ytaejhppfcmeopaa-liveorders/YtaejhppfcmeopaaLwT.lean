/- The blocks in the order in which they are done: plain. -/
import Derived.Test.YtaejhppfcmeopaaLwG
namespace Go.Proofs.Ytaejhppfcmeopaa
/-- What is begun and what is done after a visit. -/
def vsF (E : Nat → List Nat) : Nat → Nat → Nat × List Nat → Nat × List Nat
  | 0, _, s => s
  | k + 1, x, s => bif s.1.testBit x then s else (((E x).foldl (fun s y => vsF E k y s) (s.1 ||| 2 ^ x, s.2)).1, ((E x).foldl (fun s y => vsF E k y s) (s.1 ||| 2 ^ x, s.2)).2 ++ [x])
def vsL (E : Nat → List Nat) (k : Nat) (l : List Nat) (s : Nat × List Nat) : Nat × List Nat := l.foldl (fun s y => vsF E k y s) s
section
variable {E : Nat → List Nat}
theorem vsL_nil (k : Nat) (s : Nat × List Nat) : vsL E k [] s = s := rfl
theorem vsL_cons (k x : Nat) (l : List Nat) (s : Nat × List Nat) : vsL E k (x :: l) s = vsL E k l (vsF E k x s) := rfl
theorem vsL_snoc (k x : Nat) (l : List Nat) (s : Nat × List Nat) : vsL E k (l ++ [x]) s = vsF E k x (vsL E k l s) := by simp [vsL]
theorem vsF_in {k x : Nat} {s : Nat × List Nat} (h : s.1.testBit x = true) : vsF E (k + 1) x s = s := by simp [vsF, h]
theorem vsF_new {k x : Nat} {s : Nat × List Nat} (h : s.1.testBit x = false) : vsF E (k + 1) x s = ((vsL E k (E x) (s.1 ||| 2 ^ x, s.2)).1, (vsL E k (E x) (s.1 ||| 2 ^ x, s.2)).2 ++ [x]) := by simp [vsF, vsL, h]
mutual
theorem vsF_keeps (hE : ∀ x, ∀ y ∈ E x, y < 512) : ∀ (k x : Nat) (s : Nat × List Nat), x < 512 → Sm s.1 → Sm (vsF E k x s).1 ∧ Sbs s.1 (vsF E k x s).1 ∧ (vsF E k x s).2.length + un (vsF E k x s).1 ≤ s.2.length + un s.1
  | 0, _, _, _, h1 => ⟨h1, Sbs.refl _, Nat.le_refl _⟩
  | k + 1, x, s, hx, h1 => by
    cases h : s.1.testBit x with
    | true => rw [vsF_in h]; exact ⟨h1, Sbs.refl _, Nat.le_refl _⟩
    | false =>
      rw [vsF_new h]
      obtain ⟨a, b, c⟩ := vsL_keeps hE k (E x) (s.1 ||| 2 ^ x, s.2) (hE x) (h1.add hx)
      have := un_add hx h
      refine ⟨a, (sub_or _ _).trans b, ?_⟩
      simp only [List.length_append, List.length_cons, List.length_nil]
      simp only at c
      omega
theorem vsL_keeps (hE : ∀ x, ∀ y ∈ E x, y < 512) : ∀ (k : Nat) (l : List Nat) (s : Nat × List Nat), (∀ y ∈ l, y < 512) → Sm s.1 → Sm (vsL E k l s).1 ∧ Sbs s.1 (vsL E k l s).1 ∧ (vsL E k l s).2.length + un (vsL E k l s).1 ≤ s.2.length + un s.1
  | _, [], _, _, h1 => ⟨h1, Sbs.refl _, Nat.le_refl _⟩
  | k, y :: l, s, hl, h1 => by
    rw [vsL_cons]
    obtain ⟨a, b, c⟩ := vsF_keeps hE k y s (hl y (by simp)) h1
    obtain ⟨a', b', c'⟩ := vsL_keeps hE k l _ (fun z hz => hl z (by simp [hz])) a
    exact ⟨a', b.trans b', by omega⟩
end
end
/-- Where a block goes on. -/
def goN (bs : List Blk) (x : Nat) : List Nat := match bs[x]? with | some b => b.n.map Int.toNat | none => []
theorem goN_of {bs : List Blk} {x : Nat} {b : Blk} (h : bs[x]? = some b) : goN bs x = b.n.map Int.toNat := by unfold goN; rw [h]
theorem goN_lt {bs : List Blk} {K : Nat} (S : Snd bs K) : ∀ x, ∀ y ∈ goN bs x, y < bs.length := fun x y hy => by
  cases h : bs[x]? with
  | none => unfold goN at hy; rw [h] at hy; cases hy
  | some b =>
    rw [goN_of h, List.mem_map] at hy
    obtain ⟨z, hz, rfl⟩ := hy
    obtain ⟨y, rfl, hy⟩ := S.n x b h z hz
    simpa using hy
end Go.Proofs.Ytaejhppfcmeopaa
