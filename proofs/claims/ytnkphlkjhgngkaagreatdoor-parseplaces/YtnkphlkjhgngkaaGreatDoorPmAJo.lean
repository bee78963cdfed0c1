/- How far the parser's plain function goes: never back. -/
import Derived.Test.YtnkphlkjhgngkaaGreatDoorParMJo
namespace Go.Proofs.YtnkphlkjhgngkaaGreatDoor

def Res.idx {α : Type} : Res α → Nat
  | .ok _ i => i
  | .bad i => i
/-- It does not go back behind i. -/
def Ge {α : Type} (i : Nat) (r : Res α) : Prop := i ≤ r.idx
/-- What it comes to lies behind i. -/
def Gs {α : Type} (i : Nat) : Res α → Prop
  | .ok _ j => i < j
  | .bad j => i ≤ j
section
variable {α β : Type} {i k : Nat} {r a b : Res α} {f : α → Nat → Res β}
theorem Gs.ge (h : Gs i r) : Ge i r := by cases r <;> simp_all [Gs, Ge, Res.idx]; omega
theorem Ge.ok (x : α) (i : Nat) : Ge i (.ok x i) := Nat.le_refl _
theorem Ge.bad (i : Nat) : Ge i (.bad i : Res α) := Nat.le_refl _
theorem Gs.bad (i : Nat) : Gs i (.bad i : Res α) := Nat.le_refl _
theorem Gs.ok1 (x : α) (i : Nat) : Gs i (.ok x (i + 1)) := Nat.lt_succ_self _
theorem Ge.bind (h : Ge i r) (hf : ∀ a k, Ge k (f a k)) : Ge i (r.bind f) := by
  cases r with
  | bad j => exact h
  | ok x j => exact Nat.le_trans h (hf x j)
theorem Gs.bind (h : Gs i r) (hf : ∀ a k, Ge k (f a k)) : Gs i (r.bind f) := by
  cases r with
  | bad j => exact h
  | ok x j =>
    have h1 : i < j := h
    have h2 := hf x j
    simp only [Res.bind]
    cases hh : f x j <;> rw [hh] at h2 <;> simp only [Ge, Res.idx] at h2 <;> simp only [Gs] <;> omega
theorem Gs.bind' (h : Ge i r) (hf : ∀ a k, Gs k (f a k)) : Gs i (r.bind f) := by
  cases r with
  | bad j => exact h
  | ok x j =>
    have h1 : i ≤ j := h
    have h2 := hf x j
    simp only [Res.bind]
    cases hh : f x j <;> rw [hh] at h2 <;> simp only [Gs] at h2 ⊢ <;> omega
theorem Ge.le (h : Ge k r) (hk : i ≤ k) : Ge i r := Nat.le_trans hk h
theorem Gs.of (h : Ge k r) (hk : i < k) : Gs i r := by
  cases r <;> simp only [Ge, Res.idx] at h <;> simp only [Gs] <;> omega
theorem Gs.next (h : Ge (i + 1) r) : Gs i r := Gs.of h (Nat.lt_succ_self _)
theorem Gs.next2 (h : Ge (i + 2) r) : Gs i r := Gs.of h (by omega)
theorem Ge.ite {c : Prop} [Decidable c] (h1 : Ge i a) (h2 : Ge i b) : Ge i (if c then a else b) := by split <;> assumption
theorem Gs.ite {c : Prop} [Decidable c] (h1 : Gs i a) (h2 : Gs i b) : Gs i (if c then a else b) := by split <;> assumption
end
/-- The parts that come to themselves again go on. -/
structure PsG (p : Ps) : Prop where
  typ : ∀ i, Gs i (p.typ i)
  bin : ∀ h n i, Gs i (p.bin h n i)
  una : ∀ h i, Gs i (p.una h i)
  blk : ∀ i, Gs i (p.blk i)
  ifS : ∀ i, Gs i (p.ifS i)
section
variable (l : List Tk)
theorem nameR_s (i : Nat) : Gs i (nameR l i) := Gs.ite (Gs.ok1 _ _) (Gs.bad _)
theorem needR_s (s : List UInt8) (i : Nat) : Gs i (needR l s i) := Gs.ite (Gs.ok1 _ _) (Gs.bad _)
theorem nameR_g (i : Nat) : Ge i (nameR l i) := (nameR_s l i).ge
theorem needR_g (s : List UInt8) (i : Nat) : Ge i (needR l s i) := (needR_s l s i).ge
variable {item : Nat → Res Tr}
theorem upToF_g (h : ∀ k, Gs k (item k)) (mark : List UInt8) : ∀ f acc i, Ge i (upToF l mark item f acc i)
  | 0, _, _ => Ge.bad _
  | f + 1, _, i => Ge.ite (Ge.ok _ _) (Ge.bind (h i).ge fun _ _ => upToF_g h mark f _ _)
theorem commasF_g (h : ∀ k, Gs k (item k)) : ∀ f acc i, Ge i (commasF l item f acc i)
  | 0, _, _ => Ge.bad _
  | f + 1, _, _ => Ge.ite (Gs.next (Ge.bind (h _).ge fun _ _ => commasF_g h f _ _)).ge (Ge.ok _ _)
theorem upToR_g (h : ∀ k, Gs k (item k)) (mark : List UInt8) (i : Nat) : Ge i (upToR l mark item i) := upToF_g l h mark _ _ _
theorem commasR_s (h : ∀ k, Gs k (item k)) (i : Nat) : Gs i (commasR l item i) := Gs.bind (h i) fun _ _ => commasF_g l h _ _ _
theorem betweenR_s {α : Type} {inner : Nat → Res α} (h : ∀ k, Ge k (inner k)) (o s : List UInt8) (i : Nat) : Gs i (betweenR l o s inner i) :=
  Gs.bind (needR_s l o i) fun _ _ => Ge.bind (h _) fun _ _ => Ge.bind (needR_g l s _) fun _ _ => Ge.ok _ _
theorem innerR_g (h : ∀ k, Gs k (item k)) (s : List UInt8) (i : Nat) : Ge i (innerR l s item i) := Ge.ite (Ge.ok _ _) (commasR_s l h i).ge
theorem listedR_s (h : ∀ k, Gs k (item k)) (o s : List UInt8) (i : Nat) : Gs i (listedR l o s item i) := betweenR_s l (innerR_g l h s) o s i
theorem membersR_s (h : ∀ k, Gs k (item k)) (i : Nat) : Gs i (membersR l item i) := betweenR_s l (upToR_g l h _) _ _ i
variable {p : Ps} (P : PsG p)
include P
theorem typesR_s (i : Nat) : Gs i (typesR l p i) := commasR_s l P.typ i
theorem resultsR_g (i : Nat) : Ge i (resultsR l p i) := Ge.ite (betweenR_s l (fun k => (typesR_s l P k).ge) _ _ i).ge (Ge.ite (Ge.bind (P.typ i).ge fun _ _ => Ge.ok _ _) (Ge.ok _ _))
theorem functionR_s {param : Nat → Res Tr} (h : ∀ k, Gs k (param k)) (kind : Int) (i : Nat) : Gs i (functionR l p kind param i) :=
  Gs.bind (listedR_s l h _ _ i) fun _ _ => Ge.bind (resultsR_g l P _) fun _ _ => Ge.ok _ _
theorem typS_s (i : Nat) : Gs i (typS l p i) :=
  Gs.ite (Gs.ok1 _ _) (Gs.ite (Gs.next (Ge.bind (P.typ _).ge fun _ _ => Ge.ok _ _)) (Gs.ite (Gs.next (Ge.bind (needR_g l _ _) fun _ _ => Ge.bind (P.typ _).ge fun _ _ => Ge.ok _ _)) (Gs.bind (needR_s l _ _) fun _ _ => (functionR_s l P P.typ _ _).ge)))
theorem paramR_s (i : Nat) : Gs i (paramR l p i) := Gs.bind (nameR_s l i) fun _ _ => Ge.bind (P.typ _).ge fun _ _ => Ge.ok _ _
theorem sigR_s (i : Nat) : Gs i (sigR l p i) := functionR_s l P (paramR_s l P) _ i
omit l in
theorem exprR_s (h : Bool) (i : Nat) : Gs i (exprR p h i) := P.bin _ _ _
theorem exprsR_s (h : Bool) (i : Nat) : Gs i (exprsR l p h i) := commasR_s l (exprR_s P h) i
theorem elementsR_s (i : Nat) : Gs i (elementsR l p i) := listedR_s l (exprR_s P false) _ _ i
theorem namedR_s (h : Bool) (i : Nat) : Gs i (namedR l p h i) := Gs.bind (nameR_s l i) fun _ _ => Ge.ite (Ge.bind (elementsR_s l P _).ge fun _ _ => Ge.ok _ _) (Ge.ok _ _)
theorem cutR_s (num : Int) (ks : List Tr) (i : Nat) : Gs i (cutR l p num ks i) := Gs.bind (needR_s l _ i) fun _ _ => Ge.ite (Ge.ok _ _) (Ge.bind (exprR_s P _ _).ge fun _ _ => Ge.ok _ _)
theorem partR_s (t : Tr) (i : Nat) : Gs i (partR l p t i) := Gs.ite (cutR_s l P _ _ _) (Gs.bind (exprR_s P _ _) fun _ _ => Ge.ite (cutR_s l P _ _ _).ge (Ge.ok _ _))
theorem primR_s (h : Bool) (i : Nat) : Gs i (primR l p h i) :=
  Gs.ite (Gs.ok1 _ _) (Gs.ite (Gs.ok1 _ _) (Gs.ite (namedR_s l P _ _) (Gs.ite (Gs.ok1 _ _) (Gs.ite (Gs.ok1 _ _) (Gs.ite (Gs.ok1 _ _) (Gs.ite (betweenR_s l (fun k => (exprR_s P _ k).ge) _ _ _)
    (Gs.ite (Gs.next (Ge.bind (needR_g l _ _) fun _ _ => Ge.bind (P.typ _).ge fun _ _ => Ge.bind (elementsR_s l P _).ge fun _ _ => Ge.ok _ _)) (Gs.bind (needR_s l _ _) fun _ _ => Ge.bind (sigR_s l P _).ge fun _ _ => Ge.bind (P.blk _).ge fun _ _ => Ge.ok _ _))))))))
theorem postF_g : ∀ f t i, Ge i (postF l p f t i)
  | 0, _, _ => Ge.bad _
  | f + 1, _, _ => Ge.ite (Gs.next (Ge.bind (nameR_g l _) fun _ _ => postF_g f _ _)).ge (Ge.ite (Ge.bind (betweenR_s l (fun k => (partR_s l P _ k).ge) _ _ _).ge fun _ _ => postF_g f _ _) (Ge.ite (Ge.bind (listedR_s l (exprR_s P _) _ _ _).ge fun _ _ => postF_g f _ _) (Ge.ok _ _)))
theorem postR_s (h : Bool) (i : Nat) : Gs i (postR l p h i) := Gs.bind (primR_s l P h i) fun _ _ => postF_g l P _ _ _
theorem unaS_s (h : Bool) (i : Nat) : Gs i (unaS l p h i) := Gs.ite (Gs.next (Ge.bind (P.una _ _).ge fun _ _ => Ge.ok _ _)) (postR_s l P _ _)
theorem binF_g (h : Bool) (n : Int) : ∀ f t i, Ge i (binF l p h n f t i)
  | 0, _, _ => Ge.bad _
  | f + 1, _, _ => Ge.ite (Gs.next (Ge.bind (P.bin _ _ _).ge fun _ _ => binF_g h n f _ _)).ge (Ge.ok _ _)
theorem binS_s (h : Bool) (n : Int) (i : Nat) : Gs i (binS l p h n i) := Gs.bind (P.una _ _) fun _ _ => binF_g l P _ _ _ _ _
omit l in
theorem condR_s (i : Nat) : Gs i (condR p i) := exprR_s P _ _
theorem ifSS_s (i : Nat) : Gs i (ifSS l p i) := Gs.bind (condR_s P i) fun _ _ => Ge.bind (P.blk _).ge fun _ _ => Ge.ite (Ge.ite (Gs.next2 (Ge.bind (P.ifS _).ge fun _ _ => Ge.ok _ _)).ge (Gs.next (Ge.bind (P.blk _).ge fun _ _ => Ge.ok _ _)).ge) (Ge.ok _ _)
theorem forR_s (i : Nat) : Gs i (forR l p i) := Gs.ite (Gs.bind (P.blk _) fun _ _ => Ge.ok _ _) (Gs.bind (condR_s P i) fun _ _ => Ge.bind (P.blk _).ge fun _ _ => Ge.ok _ _)
theorem variableR_s (h : Bool) (i : Nat) : Gs i (variableR l p h i) := Gs.bind (nameR_s l i) fun _ _ => Ge.bind (P.typ _).ge fun _ _ => Ge.ite (Gs.next (Ge.bind (exprR_s P _ _).ge fun _ _ => Ge.ok _ _)).ge (Ge.ok _ _)
theorem assignedR_s (h : Bool) (kind : Int) (ts : List Tr) (i : Nat) : Gs i (assignedR l p h kind ts i) := Gs.next (Ge.bind (exprsR_s l P _ _).ge fun _ _ => Ge.ok _ _)
theorem assignmentR_s (h : Bool) (i : Nat) : Gs i (assignmentR l p h i) := Gs.bind (exprsR_s l P h i) fun es _ => Ge.ite (assignedR_s l P _ _ _ _).ge (Ge.ite (assignedR_s l P _ _ _ _).ge (by
  split
  · exact Ge.ite (Ge.ok _ _) (Ge.bad _)
  · exact Ge.bad _))
theorem simpleR_s (h : Bool) (i : Nat) : Gs i (simpleR l p h i) :=
  Gs.ite (Gs.next (variableR_s l P _ _).ge) (Gs.ite (Gs.ok1 _ _) (Gs.ite (Gs.ok1 _ _) (Gs.ite (Gs.ite (Gs.ok1 _ _) (Gs.next (Ge.bind (exprsR_s l P _ _).ge fun _ _ => Ge.ok _ _))) (assignmentR_s l P _ _))))
theorem stmtR_s (h : Bool) (i : Nat) : Gs i (stmtR l p h i) :=
  Gs.ite (P.blk _) (Gs.ite (Gs.next (P.ifS _).ge) (Gs.ite (Gs.next (forR_s l P _).ge) (Gs.bind (simpleR_s l P _ _) fun _ _ => Ge.bind (needR_g l _ _) fun _ _ => Ge.ok _ _)))
theorem blkS_s (i : Nat) : Gs i (blkS l p i) := Gs.bind (membersR_s l (stmtR_s l P false) i) fun _ _ => Ge.ok _ _
theorem fieldR_s (i : Nat) : Gs i (fieldR l p i) := Gs.bind (nameR_s l i) fun _ _ => Ge.bind (P.typ _).ge fun _ _ => Ge.bind (needR_g l _ _) fun _ _ => Ge.ok _ _
theorem methodR_s (i : Nat) : Gs i (methodR l p i) := Gs.bind (nameR_s l i) fun _ _ => Ge.bind (sigR_s l P _).ge fun _ _ => Ge.bind (needR_g l _ _) fun _ _ => Ge.ok _ _
omit P in
theorem receiverR_s (i : Nat) : Gs i (receiverR l i) := Gs.bind (nameR_s l i) fun _ _ => Ge.bind (needR_g l _ _) fun _ _ => Ge.bind (nameR_g l _) fun _ _ => Ge.ok _ _
theorem typeDeclR_s (i : Nat) : Gs i (typeDeclR l p i) := Gs.bind (nameR_s l i) fun _ _ => Ge.ite (Gs.next (Ge.bind (membersR_s l (fieldR_s l P) _).ge fun _ _ => Ge.ok _ _)).ge (Ge.bind (needR_g l _ _) fun _ _ => Ge.bind (membersR_s l (methodR_s l P) _).ge fun _ _ => Ge.ok _ _)
theorem declR_s (i : Nat) : Gs i (declR l p i) :=
  Gs.ite (Gs.next (typeDeclR_s l P _).ge) (Gs.bind (needR_s l _ i) fun _ _ => Ge.ite (Ge.bind (betweenR_s l (fun k => (receiverR_s l k).ge) _ _ _).ge fun _ _ => Ge.bind (nameR_g l _) fun _ _ => Ge.bind (sigR_s l P _).ge fun _ _ => Ge.bind (P.blk _).ge fun _ _ => Ge.ok _ _)
    (Ge.bind (nameR_g l _) fun _ _ => Ge.bind (sigR_s l P _).ge fun _ _ => Ge.bind (P.blk _).ge fun _ _ => Ge.ok _ _))
omit P in
theorem ps_s : ∀ n, PsG (ps l n)
  | 0 => ⟨fun _ => Gs.bad _, fun _ _ _ => Gs.bad _, fun _ _ => Gs.bad _, fun _ => Gs.bad _, fun _ => Gs.bad _⟩
  | n + 1 => ⟨typS_s l (ps_s n), binS_s l (ps_s n), unaS_s l (ps_s n), blkS_s l (ps_s n), ifSS_s l (ps_s n)⟩
end
end Go.Proofs.YtnkphlkjhgngkaaGreatDoor

namespace Go.Proofs.YtnkphlkjhgngkaaGreatDoor

def Bd {α : Type} (L : Nat) (r : Res α) : Prop := r.idx < L
/-- The last one of the tokens, and none else, is the end. -/
structure Ended (l : List Tk) : Prop where
  nx : ∀ i, i < l.length → ¬ (kindA l i = 4 ∧ textA l i = []) → i + 1 < l.length
section
variable {α β : Type} {L i : Nat} {r a b : Res α} {f : α → Nat → Res β}
theorem Bd.ok (x : α) (h : i < L) : Bd L (.ok x i) := h
theorem Bd.bad (h : i < L) : Bd L (.bad i : Res α) := h
theorem Bd.bind (h : Bd L r) (hf : ∀ a k, k < L → Bd L (f a k)) : Bd L (r.bind f) := by
  cases r with
  | bad j => exact h
  | ok x j => exact hf x j h
theorem Bd.ite {c : Prop} [Decidable c] (h1 : c → Bd L a) (h2 : Bd L b) : Bd L (if c then a else b) := by
  split
  · rename_i h; exact h1 h
  · exact h2
end
structure PsB (L : Nat) (p : Ps) : Prop where
  typ : ∀ i, i < L → Bd L (p.typ i)
  bin : ∀ h n i, 1 ≤ n → i < L → Bd L (p.bin h n i)
  una : ∀ h i, i < L → Bd L (p.una h i)
  blk : ∀ i, i < L → Bd L (p.blk i)
  ifS : ∀ i, i < L → Bd L (p.ifS i)
section
variable {l : List Tk} (E : Ended l)
include E
theorem Ended.m {s : List UInt8} (hs : s ≠ []) {i : Nat} (hi : i < l.length) (h : isM l i s = true) : i + 1 < l.length := E.nx i hi fun hn => by
  simp only [isM, Bool.and_eq_true, beq_iff_eq] at h
  exact hs (h.2.symm.trans hn.2)
theorem Ended.k {k : Int} (hk : k ≠ 4) {i : Nat} (hi : i < l.length) (h : (kindA l i == k) = true) : i + 1 < l.length := E.nx i hi fun hn => hk ((beq_iff_eq.1 h).symm.trans hn.1)
theorem Ended.p {i : Nat} (hi : i < l.length) (h : prefixL (markA l i) = true) : i + 1 < l.length := E.nx i hi fun hn => by
  simp [markA, hn.1, hn.2, prefixL] at h
theorem Ended.r {i : Nat} {n : Int} (hn1 : 1 ≤ n) (hi : i < l.length) (h : n ≤ rankL (markA l i)) : i + 1 < l.length := E.nx i hi fun hn => by
  have e : markA l i = [] := by simp [markA, hn.1, hn.2]
  have e0 : rankL ([] : List UInt8) = 0 := by decide
  rw [e, e0] at h; omega
theorem nameR_b {i : Nat} (hi : i < l.length) : Bd l.length (nameR l i) := Bd.ite (fun h => E.k (by decide) hi h) hi
theorem needR_b {s : List UInt8} (hs : s ≠ []) {i : Nat} (hi : i < l.length) : Bd l.length (needR l s i) := Bd.ite (fun h => E.m hs hi h) hi
variable {item : Nat → Res Tr}
omit E in
theorem upToF_b (h : ∀ k, k < l.length → Bd l.length (item k)) (mark : List UInt8) : ∀ f acc i, i < l.length → Bd l.length (upToF l mark item f acc i)
  | 0, _, _, hi => hi
  | f + 1, _, _, hi => Bd.ite (fun _ => hi) (Bd.bind (h _ hi) fun _ _ hk => upToF_b h mark f _ _ hk)
theorem commasF_b (h : ∀ k, k < l.length → Bd l.length (item k)) : ∀ f acc i, i < l.length → Bd l.length (commasF l item f acc i)
  | 0, _, _, hi => hi
  | f + 1, _, _, hi => Bd.ite (fun hm => Bd.bind (h _ (E.m (by decide) hi hm)) fun _ _ hk => commasF_b h f _ _ hk) hi
omit E in
theorem upToR_b (h : ∀ k, k < l.length → Bd l.length (item k)) (mark : List UInt8) {i : Nat} (hi : i < l.length) : Bd l.length (upToR l mark item i) := upToF_b h mark _ _ _ hi
theorem commasR_b (h : ∀ k, k < l.length → Bd l.length (item k)) {i : Nat} (hi : i < l.length) : Bd l.length (commasR l item i) := Bd.bind (h i hi) fun _ _ hk => commasF_b E h _ _ _ hk
theorem betweenR_b {α : Type} {inner : Nat → Res α} (h : ∀ k, k < l.length → Bd l.length (inner k)) {o s : List UInt8} (ho : o ≠ []) (hs : s ≠ []) {i : Nat} (hi : i < l.length) : Bd l.length (betweenR l o s inner i) :=
  Bd.bind (needR_b E ho hi) fun _ _ hk => Bd.bind (h _ hk) fun _ _ hk => Bd.bind (needR_b E hs hk) fun _ _ hk => hk
theorem innerR_b (h : ∀ k, k < l.length → Bd l.length (item k)) (s : List UInt8) {i : Nat} (hi : i < l.length) : Bd l.length (innerR l s item i) := Bd.ite (fun _ => hi) (commasR_b E h hi)
theorem listedR_b (h : ∀ k, k < l.length → Bd l.length (item k)) {o s : List UInt8} (ho : o ≠ []) (hs : s ≠ []) {i : Nat} (hi : i < l.length) : Bd l.length (listedR l o s item i) := betweenR_b E (fun _ hk => innerR_b E h s hk) ho hs hi
theorem membersR_b (h : ∀ k, k < l.length → Bd l.length (item k)) {i : Nat} (hi : i < l.length) : Bd l.length (membersR l item i) := betweenR_b E (fun _ hk => upToR_b h _ hk) (by decide) (by decide) hi
variable {p : Ps} (P : PsB l.length p)
include P
theorem typesR_b {i : Nat} (hi : i < l.length) : Bd l.length (typesR l p i) := commasR_b E P.typ hi
theorem resultsR_b {i : Nat} (hi : i < l.length) : Bd l.length (resultsR l p i) := Bd.ite (fun _ => betweenR_b E (fun _ hk => typesR_b E P hk) (by decide) (by decide) hi) (Bd.ite (fun _ => Bd.bind (P.typ _ hi) fun _ _ hk => hk) hi)
theorem functionR_b {param : Nat → Res Tr} (h : ∀ k, k < l.length → Bd l.length (param k)) (kind : Int) {i : Nat} (hi : i < l.length) : Bd l.length (functionR l p kind param i) :=
  Bd.bind (listedR_b E h (by decide) (by decide) hi) fun _ _ hk => Bd.bind (resultsR_b E P hk) fun _ _ hk => hk
theorem typS_b {i : Nat} (hi : i < l.length) : Bd l.length (typS l p i) :=
  Bd.ite (fun h => E.k (by decide) hi h) (Bd.ite (fun h => Bd.bind (P.typ _ (E.m (by decide) hi h)) fun _ _ hk => hk) (Bd.ite (fun h => Bd.bind (needR_b E (by decide) (E.m (by decide) hi h)) fun _ _ hk => Bd.bind (P.typ _ hk) fun _ _ hk => hk) (Bd.bind (needR_b E (by decide) hi) fun _ _ hk => functionR_b E P P.typ _ hk)))
theorem paramR_b {i : Nat} (hi : i < l.length) : Bd l.length (paramR l p i) := Bd.bind (nameR_b E hi) fun _ _ hk => Bd.bind (P.typ _ hk) fun _ _ hk => hk
theorem sigR_b {i : Nat} (hi : i < l.length) : Bd l.length (sigR l p i) := functionR_b E P (fun _ hk => paramR_b E P hk) _ hi
omit E in
theorem exprR_b (h : Bool) {i : Nat} (hi : i < l.length) : Bd l.length (exprR p h i) := P.bin _ _ _ (by decide) hi
theorem exprsR_b (h : Bool) {i : Nat} (hi : i < l.length) : Bd l.length (exprsR l p h i) := commasR_b E (fun _ hk => exprR_b P h hk) hi
theorem elementsR_b {i : Nat} (hi : i < l.length) : Bd l.length (elementsR l p i) := listedR_b E (fun _ hk => exprR_b P false hk) (by decide) (by decide) hi
theorem namedR_b (h : Bool) {i : Nat} (hi : i < l.length) : Bd l.length (namedR l p h i) := Bd.bind (nameR_b E hi) fun _ _ hk => Bd.ite (fun _ => Bd.bind (elementsR_b E P hk) fun _ _ hk => hk) hk
theorem cutR_b (num : Int) (ks : List Tr) {i : Nat} (hi : i < l.length) : Bd l.length (cutR l p num ks i) := Bd.bind (needR_b E (by decide) hi) fun _ _ hk => Bd.ite (fun _ => hk) (Bd.bind (exprR_b P _ hk) fun _ _ hk => hk)
theorem partR_b (t : Tr) {i : Nat} (hi : i < l.length) : Bd l.length (partR l p t i) := Bd.ite (fun _ => cutR_b E P _ _ hi) (Bd.bind (exprR_b P _ hi) fun _ _ hk => Bd.ite (fun _ => cutR_b E P _ _ hk) hk)
theorem primR_b (h : Bool) {i : Nat} (hi : i < l.length) : Bd l.length (primR l p h i) :=
  Bd.ite (fun h => E.k (by decide) hi h) (Bd.ite (fun h => E.k (by decide) hi h) (Bd.ite (fun _ => namedR_b E P _ hi) (Bd.ite (fun h => E.m (by decide) hi h) (Bd.ite (fun h => E.m (by decide) hi h) (Bd.ite (fun h => E.m (by decide) hi h) (Bd.ite (fun _ => betweenR_b E (fun _ hk => exprR_b P _ hk) (by decide) (by decide) hi)
    (Bd.ite (fun h => Bd.bind (needR_b E (by decide) (E.m (by decide) hi h)) fun _ _ hk => Bd.bind (P.typ _ hk) fun _ _ hk => Bd.bind (elementsR_b E P hk) fun _ _ hk => hk) (Bd.bind (needR_b E (by decide) hi) fun _ _ hk => Bd.bind (sigR_b E P hk) fun _ _ hk => Bd.bind (P.blk _ hk) fun _ _ hk => hk))))))))
theorem postF_b : ∀ f t i, i < l.length → Bd l.length (postF l p f t i)
  | 0, _, _, hi => hi
  | f + 1, _, _, hi => Bd.ite (fun h => Bd.bind (nameR_b E (E.m (by decide) hi h)) fun _ _ hk => postF_b f _ _ hk) (Bd.ite (fun _ => Bd.bind (betweenR_b E (fun _ hk => partR_b E P _ hk) (by decide) (by decide) hi) fun _ _ hk => postF_b f _ _ hk) (Bd.ite (fun _ => Bd.bind (listedR_b E (fun _ hk => exprR_b P _ hk) (by decide) (by decide) hi) fun _ _ hk => postF_b f _ _ hk) hi))
theorem postR_b (h : Bool) {i : Nat} (hi : i < l.length) : Bd l.length (postR l p h i) := Bd.bind (primR_b E P h hi) fun _ _ hk => postF_b E P _ _ _ hk
theorem unaS_b (h : Bool) {i : Nat} (hi : i < l.length) : Bd l.length (unaS l p h i) := Bd.ite (fun h => Bd.bind (P.una _ _ (E.p hi h)) fun _ _ hk => hk) (postR_b E P _ hi)
theorem binF_b (h : Bool) {n : Int} (hn : 1 ≤ n) : ∀ f t i, i < l.length → Bd l.length (binF l p h n f t i)
  | 0, _, _, hi => hi
  | f + 1, _, _, hi => Bd.ite (fun hr => Bd.bind (P.bin _ _ _ (by omega) (E.r hn hi hr)) fun _ _ hk => binF_b h hn f _ _ hk) hi
theorem binS_b (h : Bool) {n : Int} (hn : 1 ≤ n) {i : Nat} (hi : i < l.length) : Bd l.length (binS l p h n i) := Bd.bind (P.una _ _ hi) fun _ _ hk => binF_b E P _ hn _ _ _ hk
omit E in
theorem condR_b {i : Nat} (hi : i < l.length) : Bd l.length (condR p i) := exprR_b P _ hi
theorem ifSS_b {i : Nat} (hi : i < l.length) : Bd l.length (ifSS l p i) := Bd.bind (condR_b P hi) fun _ _ hk => Bd.bind (P.blk _ hk) fun _ _ hk => Bd.ite (fun h1 => Bd.ite (fun h2 => Bd.bind (P.ifS _ (E.m (by decide) (E.m (by decide) hk h1) h2)) fun _ _ hk => hk) (Bd.bind (P.blk _ (E.m (by decide) hk h1)) fun _ _ hk => hk)) hk
omit E in
theorem forR_b {i : Nat} (hi : i < l.length) : Bd l.length (forR l p i) := Bd.ite (fun _ => Bd.bind (P.blk _ hi) fun _ _ hk => hk) (Bd.bind (condR_b P hi) fun _ _ hk => Bd.bind (P.blk _ hk) fun _ _ hk => hk)
theorem variableR_b (h : Bool) {i : Nat} (hi : i < l.length) : Bd l.length (variableR l p h i) := Bd.bind (nameR_b E hi) fun _ _ hk => Bd.bind (P.typ _ hk) fun _ _ hk => Bd.ite (fun h1 => Bd.bind (exprR_b P _ (E.m (by decide) hk h1)) fun _ _ hk => hk) hk
theorem assignedR_b (h : Bool) (kind : Int) (ts : List Tr) {i : Nat} (hi : i + 1 < l.length) : Bd l.length (assignedR l p h kind ts i) := Bd.bind (exprsR_b E P _ hi) fun _ _ hk => hk
theorem assignmentR_b (h : Bool) {i : Nat} (hi : i < l.length) : Bd l.length (assignmentR l p h i) := Bd.bind (exprsR_b E P h hi) fun es _ hk => Bd.ite (fun h1 => assignedR_b E P _ _ _ (E.m (s := [58, 61]) (by decide) hk (by simp at h1; exact h1.1))) (Bd.ite (fun h1 => assignedR_b E P _ _ _ (E.m (s := [61]) (by decide) hk (by simp at h1; exact h1.1))) (by
  split
  · exact Bd.ite (fun _ => hk) hk
  · exact hk))
theorem simpleR_b (h : Bool) {i : Nat} (hi : i < l.length) : Bd l.length (simpleR l p h i) :=
  Bd.ite (fun h1 => variableR_b E P _ (E.m (by decide) hi h1)) (Bd.ite (fun h1 => E.m (by decide) hi h1) (Bd.ite (fun h1 => E.m (by decide) hi h1) (Bd.ite (fun h1 => Bd.ite (fun _ => E.m (by decide) hi h1) (Bd.bind (exprsR_b E P _ (E.m (by decide) hi h1)) fun _ _ hk => hk)) (assignmentR_b E P _ hi))))
theorem stmtR_b (h : Bool) {i : Nat} (hi : i < l.length) : Bd l.length (stmtR l p h i) :=
  Bd.ite (fun _ => P.blk _ hi) (Bd.ite (fun h1 => P.ifS _ (E.m (by decide) hi h1)) (Bd.ite (fun h1 => forR_b P (E.m (by decide) hi h1)) (Bd.bind (simpleR_b E P _ hi) fun _ _ hk => Bd.bind (needR_b E (by decide) hk) fun _ _ hk => hk)))
theorem blkS_b {i : Nat} (hi : i < l.length) : Bd l.length (blkS l p i) := Bd.bind (membersR_b E (fun _ hk => stmtR_b E P false hk) hi) fun _ _ hk => hk
theorem fieldR_b {i : Nat} (hi : i < l.length) : Bd l.length (fieldR l p i) := Bd.bind (nameR_b E hi) fun _ _ hk => Bd.bind (P.typ _ hk) fun _ _ hk => Bd.bind (needR_b E (by decide) hk) fun _ _ hk => hk
theorem methodR_b {i : Nat} (hi : i < l.length) : Bd l.length (methodR l p i) := Bd.bind (nameR_b E hi) fun _ _ hk => Bd.bind (sigR_b E P hk) fun _ _ hk => Bd.bind (needR_b E (by decide) hk) fun _ _ hk => hk
omit P in
theorem receiverR_b {i : Nat} (hi : i < l.length) : Bd l.length (receiverR l i) := Bd.bind (nameR_b E hi) fun _ _ hk => Bd.bind (needR_b E (by decide) hk) fun _ _ hk => Bd.bind (nameR_b E hk) fun _ _ hk => hk
theorem typeDeclR_b {i : Nat} (hi : i < l.length) : Bd l.length (typeDeclR l p i) := Bd.bind (nameR_b E hi) fun _ _ hk => Bd.ite (fun h1 => Bd.bind (membersR_b E (fun _ hk => fieldR_b E P hk) (E.m (by decide) hk h1)) fun _ _ hk => hk) (Bd.bind (needR_b E (by decide) hk) fun _ _ hk => Bd.bind (membersR_b E (fun _ hk => methodR_b E P hk) hk) fun _ _ hk => hk)
theorem declR_b {i : Nat} (hi : i < l.length) : Bd l.length (declR l p i) :=
  Bd.ite (fun h1 => typeDeclR_b E P (E.m (by decide) hi h1)) (Bd.bind (needR_b E (by decide) hi) fun _ _ hk => Bd.ite (fun _ => Bd.bind (betweenR_b E (fun _ hk => receiverR_b E hk) (by decide) (by decide) hk) fun _ _ hk => Bd.bind (nameR_b E hk) fun _ _ hk => Bd.bind (sigR_b E P hk) fun _ _ hk => Bd.bind (P.blk _ hk) fun _ _ hk => hk)
    (Bd.bind (nameR_b E hk) fun _ _ hk => Bd.bind (sigR_b E P hk) fun _ _ hk => Bd.bind (P.blk _ hk) fun _ _ hk => hk))
theorem progR_b (h0 : 0 < l.length) : Bd l.length (progR l p) := Bd.bind (upToR_b (fun _ hk => declR_b E P hk) _ h0) fun _ _ hk => hk
omit P in
theorem ps_b : ∀ n, PsB l.length (ps l n)
  | 0 => ⟨fun _ h => h, fun _ _ _ _ h => h, fun _ _ h => h, fun _ h => h, fun _ h => h⟩
  | n + 1 => ⟨fun _ h => typS_b E (ps_b n) h, fun _ _ _ hn h => binS_b E (ps_b n) _ hn h, fun _ _ h => unaS_b E (ps_b n) _ h, fun _ h => blkS_b E (ps_b n) h, fun _ h => ifSS_b E (ps_b n) h⟩
end
end Go.Proofs.YtnkphlkjhgngkaaGreatDoor

namespace Go.Proofs.YtnkphlkjhgngkaaGreatDoor

def Res.sh {α : Type} (d : Nat) : Res α → Res α
  | .ok a i => .ok a (i + d)
  | .bad i => .bad (i + d)
/-- A token is another one, but for its place. -/
structure TkE (l l' : List Tk) (i i' : Nat) : Prop where
  k : kindA l' i' = kindA l i
  t : textA l' i' = textA l i
  n : numA l' i' = numA l i
def Ag (l l' : List Tk) (d i j : Nat) : Prop := ∀ k, i ≤ k → k ≤ j → TkE l l' k (k + d)
def Lc {α : Type} (l l' : List Tk) (d i : Nat) (r r' : Res α) : Prop := Ag l l' d i r.idx → r' = r.sh d
section
variable {l l' : List Tk} {d i i' : Nat} {α β : Type}
theorem TkE.me (t : TkE l l' i i') (s : List UInt8) : isM l' i' s = isM l i s := by simp only [isM, t.k, t.t]
theorem TkE.mk' (t : TkE l l' i i') : markA l' i' = markA l i := by simp only [markA, t.k, t.t]
theorem TkE.ty (t : TkE l l' i i') : atTypeR l' i' = atTypeR l i := by simp only [atTypeR, t.k, t.me]
theorem Lc.ok {a a' : α} {k k' : Nat} (h : a' = a) (e : k' = k + d) : Lc l l' d i (.ok a k) (.ok a' k') := fun _ => by rw [h, e]; rfl
theorem Lc.bad {k k' : Nat} (e : k' = k + d) : Lc l l' d i (.bad k : Res α) (.bad k') := fun _ => by rw [e]; rfl
theorem Lc.le {j : Nat} {r r' : Res α} (h : Lc l l' d j r r') (hj : i ≤ j) : Lc l l' d i r r' := fun hA => h fun k h1 h2 => hA k (Nat.le_trans hj h1) h2
theorem Lc.at {r r' : Res α} (g : Ge i r) (e : i' = i + d) (h : TkE l l' i i' → Lc l l' d i r r') : Lc l l' d i r r' := fun hA => h (e ▸ hA i (Nat.le_refl _) g) hA
theorem Lc.ite {a b a' b' : Res α} {c c' : Prop} [Decidable c] [Decidable c'] (hc : c' ↔ c) (h1 : c → c' → Lc l l' d i a a') (h2 : ¬ c → ¬ c' → Lc l l' d i b b') : Lc l l' d i (if c then a else b) (if c' then a' else b') := by
  by_cases h : c
  · rw [if_pos h, if_pos (hc.2 h)]; exact h1 h (hc.2 h)
  · rw [if_neg h, if_neg (fun h' => h (hc.1 h'))]; exact h2 h (fun h' => h (hc.1 h'))
theorem Lc.bind {r r' : Res α} {f f' : α → Nat → Res β} (h : Lc l l' d i r r') (g : Ge i r) (hf : ∀ a k, Ge k (f a k)) (hk : ∀ a k k', k' = k + d → i ≤ k → r = .ok a k → r' = .ok a k' → Lc l l' d k (f a k) (f' a k')) : Lc l l' d i (r.bind f) (r'.bind f') := by
  intro hA
  cases r with
  | bad j =>
    have e := h hA
    rw [e]; rfl
  | ok a k =>
    have hg := hf a k
    have e := h fun m h1 h2 => hA m h1 (Nat.le_trans h2 hg)
    rw [e]
    exact hk a k (k + d) rfl g rfl e fun m h1 h2 => hA m (Nat.le_trans g h1) h2
end
/-- Where the parser may go on with what it has. -/
structure FA (l l' : List Tk) (d n n' i i' : Nat) : Prop where
  e : i' = i + d
  a : i < l.length
  b : i' < l'.length
  c : 3 * (l.length - i) ≤ n + 1
  c' : 3 * (l'.length - i') ≤ n' + 1
structure FB (l l' : List Tk) (d n n' i i' : Nat) : Prop where
  e : i' = i + d
  a : i < l.length
  b : i' < l'.length
  c : 3 * (l.length - i) + 2 ≤ n
  c' : 3 * (l'.length - i') + 2 ≤ n'
theorem FB.fa {l l' : List Tk} {d n n' i i' : Nat} (F : FB l l' d n n' i i') : FA l l' d n n' i i' := ⟨F.e, F.a, F.b, by have := F.c; omega, by have := F.c'; omega⟩
theorem FA.on {l l' : List Tk} {d n n' i i' k k' : Nat} (F : FA l l' d n n' i i') (h : i < k) (e : k' = k + d) (h1 : k < l.length) (h2 : k' < l'.length) : FB l l' d n n' k k' := ⟨e, h1, h2, by have := F.c; omega, by have := F.c'; have := F.e; omega⟩
theorem FB.on {l l' : List Tk} {d n n' i i' k k' : Nat} (F : FB l l' d n n' i i') (h : i ≤ k) (e : k' = k + d) (h1 : k < l.length) (h2 : k' < l'.length) : FB l l' d n n' k k' := ⟨e, h1, h2, by have := F.c; omega, by have := F.c'; have := F.e; omega⟩
/-- All that is known of two runs of a part. -/
structure Pk {α : Type} (l l' : List Tk) (d i : Nat) (r r' : Res α) : Prop where
  lc : Lc l l' d i r r'
  g : Gs i r
  b : Bd l.length r
  b' : Bd l'.length r'
structure Wk {α : Type} (l l' : List Tk) (d i : Nat) (r r' : Res α) : Prop where
  lc : Lc l l' d i r r'
  g : Ge i r
  b : Bd l.length r
  b' : Bd l'.length r'
section
variable {l l' : List Tk} {d n n' i i' : Nat} {α β : Type} {r r' : Res α} {f f' : α → Nat → Res β}
theorem Pk.wk (h : Pk l l' d i r r') : Wk l l' d i r r' := ⟨h.lc, h.g.ge, h.b, h.b'⟩
theorem Pk.bind (F : FA l l' d n n' i i') (h : Pk l l' d i r r') (hf : ∀ a k, Ge k (f a k)) (hk : ∀ a k k', i < k → FB l l' d n n' k k' → Lc l l' d k (f a k) (f' a k')) : Lc l l' d i (r.bind f) (r'.bind f') :=
  Lc.bind h.lc h.g.ge hf fun a k k' e _ h1 h2 => by
    have b1 := h.b; have b2 := h.b'; have g := h.g
    rw [h1] at b1 g; rw [h2] at b2
    exact hk a k k' g (F.on g e b1 b2)
theorem Wk.bind (F : FB l l' d n n' i i') (h : Wk l l' d i r r') (hf : ∀ a k, Ge k (f a k)) (hk : ∀ a k k', i ≤ k → FB l l' d n n' k k' → Lc l l' d k (f a k) (f' a k')) : Lc l l' d i (r.bind f) (r'.bind f') :=
  Lc.bind h.lc h.g hf fun a k k' e h0 h1 h2 => by
    have b1 := h.b; have b2 := h.b'
    rw [h1] at b1; rw [h2] at b2
    exact hk a k k' h0 (F.on h0 e b1 b2)
end
/-- Two runs' parts that come to themselves again. -/
structure Cx (l l' : List Tk) (d n n' : Nat) (p p' : Ps) : Prop where
  E : Ended l
  E' : Ended l'
  G : PsG p
  B : PsB l.length p
  B' : PsB l'.length p'
  typ : ∀ i i', i' = i + d → i < l.length → i' < l'.length → 3 * (l.length - i) ≤ n → 3 * (l'.length - i') ≤ n' → Lc l l' d i (p.typ i) (p'.typ i')
  bin : ∀ h m i i', 1 ≤ m → i' = i + d → i < l.length → i' < l'.length → 3 * (l.length - i) + 1 ≤ n → 3 * (l'.length - i') + 1 ≤ n' → Lc l l' d i (p.bin h m i) (p'.bin h m i')
  una : ∀ h i i', i' = i + d → i < l.length → i' < l'.length → 3 * (l.length - i) ≤ n → 3 * (l'.length - i') ≤ n' → Lc l l' d i (p.una h i) (p'.una h i')
  blk : ∀ i i', i' = i + d → i < l.length → i' < l'.length → 3 * (l.length - i) ≤ n → 3 * (l'.length - i') ≤ n' → Lc l l' d i (p.blk i) (p'.blk i')
  ifS : ∀ i i', i' = i + d → i < l.length → i' < l'.length → 3 * (l.length - i) + 2 ≤ n → 3 * (l'.length - i') + 2 ≤ n' → Lc l l' d i (p.ifS i) (p'.ifS i')
section
variable {l l' : List Tk} {d n n' i i' : Nat} {p p' : Ps} (C : Cx l l' d n n' p p')
include C
theorem Cx.typk (F : FB l l' d n n' i i') : Pk l l' d i (p.typ i) (p'.typ i') := ⟨C.typ _ _ F.e F.a F.b (by have := F.c; omega) (by have := F.c'; omega), C.G.typ i, C.B.typ i F.a, C.B'.typ i' F.b⟩
theorem Cx.bink (h : Bool) {m : Int} (hm : 1 ≤ m) (F : FB l l' d n n' i i') : Pk l l' d i (p.bin h m i) (p'.bin h m i') := ⟨C.bin _ _ _ _ hm F.e F.a F.b (by have := F.c; omega) (by have := F.c'; omega), C.G.bin h m i, C.B.bin h m i hm F.a, C.B'.bin h m i' hm F.b⟩
theorem Cx.unak (h : Bool) (F : FB l l' d n n' i i') : Pk l l' d i (p.una h i) (p'.una h i') := ⟨C.una _ _ _ F.e F.a F.b (by have := F.c; omega) (by have := F.c'; omega), C.G.una h i, C.B.una h i F.a, C.B'.una h i' F.b⟩
theorem Cx.blkk (F : FB l l' d n n' i i') : Pk l l' d i (p.blk i) (p'.blk i') := ⟨C.blk _ _ F.e F.a F.b (by have := F.c; omega) (by have := F.c'; omega), C.G.blk i, C.B.blk i F.a, C.B'.blk i' F.b⟩
theorem Cx.ifk (F : FB l l' d n n' i i') : Pk l l' d i (p.ifS i) (p'.ifS i') := ⟨C.ifS _ _ F.e F.a F.b F.c F.c', C.G.ifS i, C.B.ifS i F.a, C.B'.ifS i' F.b⟩
theorem Cx.m1 {s : List UInt8} (hs : s ≠ []) (F : FA l l' d n n' i i') (h : isM l i s = true) (h' : isM l' i' s = true) : FB l l' d n n' (i + 1) (i' + 1) := F.on (Nat.lt_succ_self _) (by have := F.e; omega) (C.E.m hs F.a h) (C.E'.m hs F.b h')
omit C in
theorem Cx.nameR_l (e : i' = i + d) : Lc l l' d i (nameR l i) (nameR l' i') := Lc.at (nameR_g l i) e fun t => Lc.ite (by simp only [t.k]) (fun _ _ => Lc.ok t.t (by omega)) (fun _ _ => Lc.bad e)
omit C in
theorem Cx.needR_l (s : List UInt8) (e : i' = i + d) : Lc l l' d i (needR l s i) (needR l' s i') := Lc.at (needR_g l s i) e fun t => Lc.ite (by simp only [t.me]) (fun _ _ => Lc.ok rfl (by omega)) (fun _ _ => Lc.bad e)
theorem Cx.nameR_k (F : FA l l' d n n' i i') : Pk l l' d i (nameR l i) (nameR l' i') := ⟨Cx.nameR_l F.e, nameR_s l i, nameR_b C.E F.a, nameR_b C.E' F.b⟩
theorem Cx.needR_k {s : List UInt8} (hs : s ≠ []) (F : FA l l' d n n' i i') : Pk l l' d i (needR l s i) (needR l' s i') := ⟨Cx.needR_l s F.e, needR_s l s i, needR_b C.E hs F.a, needR_b C.E' hs F.b⟩
end
/-- A part that is taken along. -/
structure It (l l' : List Tk) (d n n' : Nat) (item item' : Nat → Res Tr) : Prop where
  k : ∀ i i', FB l l' d n n' i i' → Pk l l' d i (item i) (item' i')
  s : ∀ k, Gs k (item k)
  b : ∀ k, k < l.length → Bd l.length (item k)
  b' : ∀ k, k < l'.length → Bd l'.length (item' k)
section
variable {l l' : List Tk} {d n n' : Nat} {p p' : Ps} (C : Cx l l' d n n' p p') {item item' : Nat → Res Tr} (I : It l l' d n n' item item')
include C I
omit C in
theorem It.upToF_l (mark : List UInt8) : ∀ f f' acc i i', FB l l' d n n' i i' → l.length - i < f → l'.length - i' < f' → Lc l l' d i (upToF l mark item f acc i) (upToF l' mark item' f' acc i')
  | 0, _, _, _, _, _, h, _ => by omega
  | _ + 1, 0, _, _, _, _, _, h => by omega
  | f + 1, f' + 1, acc, i, i', F, h, h' => Lc.at (upToF_g l I.s mark _ _ _) F.e fun t => by
    unfold upToF
    exact Lc.ite (by simp only [t.me]) (fun _ _ => Lc.ok rfl F.e) (fun _ _ => Pk.bind F.fa (I.k i i' F) (fun _ _ => upToF_g l I.s mark _ _ _) fun a k k' hk K => It.upToF_l mark f f' _ k k' K (by have := F.a; omega) (by have := F.b; have := F.e; have := K.e; omega))
theorem Cx.commasF_l : ∀ f f' acc i i', FB l l' d n n' i i' → l.length - i < f → l'.length - i' < f' → Lc l l' d i (commasF l item f acc i) (commasF l' item' f' acc i')
  | 0, _, _, _, _, _, h, _ => by omega
  | _ + 1, 0, _, _, _, _, _, h => by omega
  | f + 1, f' + 1, acc, i, i', F, h, h' => Lc.at (commasF_g l I.s _ _ _) F.e fun t => by
    unfold commasF
    exact Lc.ite (by simp only [t.me]) (fun h1 h2 => Lc.le (Pk.bind (C.m1 (by decide) F.fa h1 h2).fa (I.k _ _ (C.m1 (by decide) F.fa h1 h2)) (fun _ _ => commasF_g l I.s _ _ _) fun a k k' hk K => Cx.commasF_l f f' _ k k' K (by have := F.a; omega) (by have := F.b; have := F.e; have := K.e; omega)) (Nat.le_succ _)) (fun _ _ => Lc.ok rfl F.e)
variable {i i' : Nat}
omit C in
theorem It.upToR_k (mark : List UInt8) (F : FB l l' d n n' i i') : Wk l l' d i (upToR l mark item i) (upToR l' mark item' i') := ⟨I.upToF_l mark _ _ _ _ _ F (by omega) (by omega), upToR_g l I.s mark i, upToR_b I.b mark F.a, upToR_b I.b' mark F.b⟩
theorem Cx.commasR_k (F : FB l l' d n n' i i') : Pk l l' d i (commasR l item i) (commasR l' item' i') :=
  ⟨Pk.bind F.fa (I.k i i' F) (fun _ _ => commasF_g l I.s _ _ _) fun _ k k' _ K => C.commasF_l I _ _ _ k k' K (by omega) (by omega), commasR_s l I.s i, commasR_b C.E I.b F.a, commasR_b C.E' I.b' F.b⟩
theorem Cx.innerR_k (s : List UInt8) (F : FB l l' d n n' i i') : Wk l l' d i (innerR l s item i) (innerR l' s item' i') :=
  ⟨Lc.at (innerR_g l I.s s i) F.e fun t => Lc.ite (by simp only [t.me]) (fun _ _ => Lc.ok rfl F.e) (fun _ _ => (C.commasR_k I F).lc), innerR_g l I.s s i, innerR_b C.E I.b s F.a, innerR_b C.E' I.b' s F.b⟩
omit I in
theorem Cx.betweenR_l {α : Type} {inner inner' : Nat → Res α} (hg : ∀ k, Ge k (inner k)) (hk : ∀ k k', FB l l' d n n' k k' → Wk l l' d k (inner k) (inner' k')) {o s : List UInt8} (ho : o ≠ []) (hs : s ≠ []) (F : FA l l' d n n' i i') : Lc l l' d i (betweenR l o s inner i) (betweenR l' o s inner' i') :=
  Pk.bind F (C.needR_k ho F) (fun _ _ => Ge.bind (hg _) fun _ _ => Ge.bind (needR_g l s _) fun _ _ => Ge.ok _ _) fun _ k k' _ K => Wk.bind K (hk k k' K) (fun _ _ => Ge.bind (needR_g l s _) fun _ _ => Ge.ok _ _) fun _ _ _ _ K => Pk.bind K.fa (C.needR_k hs K.fa) (fun _ _ => Ge.ok _ _) fun _ _ _ _ K => Lc.ok rfl K.e
theorem Cx.listedR_k {o s : List UInt8} (ho : o ≠ []) (hs : s ≠ []) (F : FA l l' d n n' i i') : Pk l l' d i (listedR l o s item i) (listedR l' o s item' i') :=
  ⟨C.betweenR_l (innerR_g l I.s s) (fun _ _ K => C.innerR_k I s K) ho hs F, listedR_s l I.s o s i, listedR_b C.E I.b ho hs F.a, listedR_b C.E' I.b' ho hs F.b⟩
theorem Cx.membersR_k (F : FA l l' d n n' i i') : Pk l l' d i (membersR l item i) (membersR l' item' i') :=
  ⟨C.betweenR_l (upToR_g l I.s _) (fun _ _ K => I.upToR_k _ K) (by decide) (by decide) F, membersR_s l I.s i, membersR_b C.E I.b F.a, membersR_b C.E' I.b' F.b⟩
end
section
variable {l l' : List Tk} {d n n' i i' : Nat} {p p' : Ps} (C : Cx l l' d n n' p p')
include C
theorem Cx.itTyp : It l l' d n n' p.typ p'.typ := ⟨fun _ _ F => C.typk F, C.G.typ, C.B.typ, C.B'.typ⟩
theorem Cx.typesR_k (F : FB l l' d n n' i i') : Pk l l' d i (typesR l p i) (typesR l' p' i') := ⟨(C.commasR_k C.itTyp F).lc, typesR_s l C.G i, typesR_b C.E C.B F.a, typesR_b C.E' C.B' F.b⟩
theorem Cx.resultsR_k (F : FB l l' d n n' i i') : Wk l l' d i (resultsR l p i) (resultsR l' p' i') := ⟨Lc.at (resultsR_g l C.G i) F.e fun t => Lc.ite (by simp only [t.me]) (fun _ _ => C.betweenR_l (fun k => (typesR_s l C.G k).ge) (fun _ _ K => (C.typesR_k K).wk) (by decide) (by decide) F.fa) (fun _ _ => Lc.ite (by simp only [t.ty]) (fun _ _ => Pk.bind F.fa (C.typk F) (fun _ _ => Ge.ok _ _) fun _ _ _ _ K => Lc.ok rfl K.e) (fun _ _ => Lc.ok rfl F.e)), resultsR_g l C.G i, resultsR_b C.E C.B F.a, resultsR_b C.E' C.B' F.b⟩
theorem Cx.functionR_l {param param' : Nat → Res Tr} (I : It l l' d n n' param param') (kind : Int) (F : FA l l' d n n' i i') : Lc l l' d i (functionR l p kind param i) (functionR l' p' kind param' i') := Pk.bind F (C.listedR_k I (by decide) (by decide) F) (fun _ _ => Ge.bind (resultsR_g l C.G _) fun _ _ => Ge.ok _ _) fun _ k k' _ K => Wk.bind K (C.resultsR_k K) (fun _ _ => Ge.ok _ _) fun _ _ _ _ K => Lc.ok rfl K.e
theorem Cx.typS_k (F : FA l l' d n n' i i') : Pk l l' d i (typS l p i) (typS l' p' i') := ⟨Lc.at ((typS_s l C.G i).ge) F.e fun t => Lc.ite (by simp only [t.k]) (fun _ _ => Lc.ok (by rw [t.t]) (by have := F.e; omega)) (fun _ _ => Lc.ite (by simp only [t.me]) (fun h1 h2 => Lc.le (Pk.bind (C.m1 (by decide) F h1 h2).fa (C.typk (C.m1 (by decide) F h1 h2)) (fun _ _ => Ge.ok _ _) fun _ _ _ _ K => Lc.ok rfl K.e) (Nat.le_succ _)) (fun _ _ => Lc.ite (by simp only [t.me]) (fun h1 h2 => Lc.le (Pk.bind (C.m1 (by decide) F h1 h2).fa (C.needR_k (by decide) (C.m1 (by decide) F h1 h2).fa) (fun _ _ => Ge.bind (C.G.typ _).ge fun _ _ => Ge.ok _ _) fun _ _ _ _ K => Pk.bind K.fa (C.typk K) (fun _ _ => Ge.ok _ _) fun _ _ _ _ K => Lc.ok rfl K.e) (Nat.le_succ _)) (fun _ _ => Pk.bind F (C.needR_k (by decide) F) (fun _ _ => (functionR_s l C.G C.G.typ _ _).ge) fun _ _ _ _ K => C.functionR_l C.itTyp _ K.fa))), typS_s l C.G i, typS_b C.E C.B F.a, typS_b C.E' C.B' F.b⟩
theorem Cx.paramR_k (F : FA l l' d n n' i i') : Pk l l' d i (paramR l p i) (paramR l' p' i') := ⟨Pk.bind F (C.nameR_k F) (fun _ _ => Ge.bind (C.G.typ _).ge fun _ _ => Ge.ok _ _) fun _ _ _ _ K => Pk.bind K.fa (C.typk K) (fun _ _ => Ge.ok _ _) fun _ _ _ _ K => Lc.ok rfl K.e, paramR_s l C.G i, paramR_b C.E C.B F.a, paramR_b C.E' C.B' F.b⟩
theorem Cx.itParam : It l l' d n n' (paramR l p) (paramR l' p') := ⟨fun _ _ F => C.paramR_k F.fa, paramR_s l C.G, fun _ h => paramR_b C.E C.B h, fun _ h => paramR_b C.E' C.B' h⟩
theorem Cx.sigR_k (F : FA l l' d n n' i i') : Pk l l' d i (sigR l p i) (sigR l' p' i') := ⟨C.functionR_l C.itParam _ F, sigR_s l C.G i, sigR_b C.E C.B F.a, sigR_b C.E' C.B' F.b⟩
theorem Cx.exprR_k (h : Bool) (F : FB l l' d n n' i i') : Pk l l' d i (exprR p h i) (exprR p' h i') := C.bink h (by decide) F
theorem Cx.itExpr (h : Bool) : It l l' d n n' (exprR p h) (exprR p' h) := ⟨fun _ _ F => C.exprR_k h F, exprR_s C.G h, fun _ hk => exprR_b C.B h hk, fun _ hk => exprR_b C.B' h hk⟩
theorem Cx.exprsR_k (h : Bool) (F : FB l l' d n n' i i') : Pk l l' d i (exprsR l p h i) (exprsR l' p' h i') := ⟨(C.commasR_k (C.itExpr h) F).lc, exprsR_s l C.G h i, exprsR_b C.E C.B h F.a, exprsR_b C.E' C.B' h F.b⟩
theorem Cx.elementsR_k (F : FA l l' d n n' i i') : Pk l l' d i (elementsR l p i) (elementsR l' p' i') := ⟨(C.listedR_k (C.itExpr false) (by decide) (by decide) F).lc, elementsR_s l C.G i, elementsR_b C.E C.B F.a, elementsR_b C.E' C.B' F.b⟩
theorem Cx.namedR_k (h : Bool) (F : FA l l' d n n' i i') : Pk l l' d i (namedR l p h i) (namedR l' p' h i') := ⟨Pk.bind F (C.nameR_k F) (fun _ _ => Ge.ite (Ge.bind (elementsR_s l C.G _).ge fun _ _ => Ge.ok _ _) (Ge.ok _ _)) fun _ k k' _ K => Lc.at (Ge.ite (Ge.bind (elementsR_s l C.G _).ge fun _ _ => Ge.ok _ _) (Ge.ok _ _)) K.e fun t => Lc.ite (by simp only [t.me]) (fun _ _ => Pk.bind K.fa (C.elementsR_k K.fa) (fun _ _ => Ge.ok _ _) fun _ _ _ _ K => Lc.ok rfl K.e) (fun _ _ => Lc.ok rfl K.e), namedR_s l C.G h i, namedR_b C.E C.B h F.a, namedR_b C.E' C.B' h F.b⟩
theorem Cx.cutR_k (num : Int) (ks : List Tr) (F : FA l l' d n n' i i') : Pk l l' d i (cutR l p num ks i) (cutR l' p' num ks i') := ⟨Pk.bind F (C.needR_k (by decide) F) (fun _ _ => Ge.ite (Ge.ok _ _) (Ge.bind (exprR_s C.G _ _).ge fun _ _ => Ge.ok _ _)) fun _ k k' _ K => Lc.at (Ge.ite (Ge.ok _ _) (Ge.bind (exprR_s C.G _ _).ge fun _ _ => Ge.ok _ _)) K.e fun t => Lc.ite (by simp only [t.me]) (fun _ _ => Lc.ok rfl K.e) (fun _ _ => Pk.bind K.fa (C.exprR_k _ K) (fun _ _ => Ge.ok _ _) fun _ _ _ _ K => Lc.ok rfl K.e), cutR_s l C.G num ks i, cutR_b C.E C.B num ks F.a, cutR_b C.E' C.B' num ks F.b⟩
theorem Cx.partR_k (t0 : Tr) (F : FB l l' d n n' i i') : Pk l l' d i (partR l p t0 i) (partR l' p' t0 i') := ⟨Lc.at ((partR_s l C.G t0 i).ge) F.e fun t => Lc.ite (by simp only [t.me]) (fun _ _ => (C.cutR_k _ _ F.fa).lc) (fun _ _ => Pk.bind F.fa (C.exprR_k _ F) (fun _ _ => Ge.ite (cutR_s l C.G _ _ _).ge (Ge.ok _ _)) fun _ k k' _ K => Lc.at (Ge.ite (cutR_s l C.G _ _ _).ge (Ge.ok _ _)) K.e fun t => Lc.ite (by simp only [t.me]) (fun _ _ => (C.cutR_k _ _ K.fa).lc) (fun _ _ => Lc.ok rfl K.e)), partR_s l C.G t0 i, partR_b C.E C.B t0 F.a, partR_b C.E' C.B' t0 F.b⟩
theorem Cx.primR_k (h : Bool) (F : FA l l' d n n' i i') : Pk l l' d i (primR l p h i) (primR l' p' h i') := ⟨Lc.at ((primR_s l C.G h i).ge) F.e fun t => Lc.ite (by simp only [t.k]) (fun _ _ => Lc.ok (by rw [t.n]) (by have := F.e; omega)) (fun _ _ => Lc.ite (by simp only [t.k]) (fun _ _ => Lc.ok (by rw [t.t]) (by have := F.e; omega)) (fun _ _ => Lc.ite (by simp only [t.k]) (fun _ _ => (C.namedR_k h F).lc) (fun _ _ => Lc.ite (by simp only [t.me]) (fun _ _ => Lc.ok rfl (by have := F.e; omega)) (fun _ _ => Lc.ite (by simp only [t.me]) (fun _ _ => Lc.ok rfl (by have := F.e; omega)) (fun _ _ => Lc.ite (by simp only [t.me]) (fun _ _ => Lc.ok rfl (by have := F.e; omega)) (fun _ _ => Lc.ite (by simp only [t.me]) (fun _ _ => C.betweenR_l (fun k => (exprR_s C.G _ k).ge) (fun _ _ K => (C.exprR_k _ K).wk) (by decide) (by decide) F) (fun _ _ => Lc.ite (by simp only [t.me]) (fun h1 h2 => Lc.le (Pk.bind (C.m1 (by decide) F h1 h2).fa (C.needR_k (by decide) (C.m1 (by decide) F h1 h2).fa) (fun _ _ => Ge.bind (C.G.typ _).ge fun _ _ => Ge.bind (elementsR_s l C.G _).ge fun _ _ => Ge.ok _ _) fun _ _ _ _ K => Pk.bind K.fa (C.typk K) (fun _ _ => Ge.bind (elementsR_s l C.G _).ge fun _ _ => Ge.ok _ _) fun _ _ _ _ K => Pk.bind K.fa (C.elementsR_k K.fa) (fun _ _ => Ge.ok _ _) fun _ _ _ _ K => Lc.ok rfl K.e) (Nat.le_succ _)) (fun _ _ => Pk.bind F (C.needR_k (by decide) F) (fun _ _ => Ge.bind (sigR_s l C.G _).ge fun _ _ => Ge.bind (C.G.blk _).ge fun _ _ => Ge.ok _ _) fun _ _ _ _ K => Pk.bind K.fa (C.sigR_k K.fa) (fun _ _ => Ge.bind (C.G.blk _).ge fun _ _ => Ge.ok _ _) fun _ _ _ _ K => Pk.bind K.fa (C.blkk K) (fun _ _ => Ge.ok _ _) fun _ _ _ _ K => Lc.ok rfl K.e)))))))), primR_s l C.G h i, primR_b C.E C.B h F.a, primR_b C.E' C.B' h F.b⟩
omit i i' in
theorem Cx.postF_l : ∀ f f' t0 i i', FB l l' d n n' i i' → l.length - i < f → l'.length - i' < f' → Lc l l' d i (postF l p f t0 i) (postF l' p' f' t0 i')
  | 0, _, _, _, _, _, h, _ => by omega
  | _ + 1, 0, _, _, _, _, _, h => by omega
  | f + 1, f' + 1, t0, i, i', F, h, h' => Lc.at (postF_g l C.G _ _ _) F.e fun t => by
    unfold postF
    exact Lc.ite (by simp only [t.me]) (fun h1 h2 => Lc.le (Pk.bind (C.m1 (by decide) F.fa h1 h2).fa (C.nameR_k (C.m1 (by decide) F.fa h1 h2).fa) (fun _ _ => postF_g l C.G _ _ _) fun _ k k' _ K => Cx.postF_l f f' _ k k' K (by have := F.a; omega) (by have := F.b; have := F.e; have := K.e; omega)) (Nat.le_succ _))
      (fun _ _ => Lc.ite (by simp only [t.me]) (fun _ _ => Pk.bind F.fa ⟨C.betweenR_l (fun k => (partR_s l C.G _ k).ge) (fun _ _ K => (C.partR_k _ K).wk) (by decide) (by decide) F.fa, betweenR_s l (fun k => (partR_s l C.G _ k).ge) _ _ _, betweenR_b C.E (fun _ hk => partR_b C.E C.B _ hk) (by decide) (by decide) F.a, betweenR_b C.E' (fun _ hk => partR_b C.E' C.B' _ hk) (by decide) (by decide) F.b⟩ (fun _ _ => postF_g l C.G _ _ _) fun _ k k' _ K => Cx.postF_l f f' _ k k' K (by have := F.a; omega) (by have := F.b; have := F.e; have := K.e; omega))
      (fun _ _ => Lc.ite (by simp only [t.me]) (fun _ _ => Pk.bind F.fa (C.listedR_k (C.itExpr false) (by decide) (by decide) F.fa) (fun _ _ => postF_g l C.G _ _ _) fun _ k k' _ K => Cx.postF_l f f' _ k k' K (by have := F.a; omega) (by have := F.b; have := F.e; have := K.e; omega)) (fun _ _ => Lc.ok rfl F.e)))
theorem Cx.postR_k (h : Bool) (F : FA l l' d n n' i i') : Pk l l' d i (postR l p h i) (postR l' p' h i') := ⟨Pk.bind F (C.primR_k h F) (fun _ _ => postF_g l C.G _ _ _) fun _ k k' _ K => C.postF_l _ _ _ k k' K (by omega) (by omega), postR_s l C.G h i, postR_b C.E C.B h F.a, postR_b C.E' C.B' h F.b⟩
theorem Cx.unaS_k (h : Bool) (F : FA l l' d n n' i i') : Pk l l' d i (unaS l p h i) (unaS l' p' h i') := ⟨Lc.at ((unaS_s l C.G h i).ge) F.e fun t => Lc.ite (by simp only [t.mk']) (fun h1 h2 => by
  have K : FB l l' d n n' (i + 1) (i' + 1) := F.on (Nat.lt_succ_self _) (by have := F.e; omega) (C.E.p F.a h1) (C.E'.p F.b h2)
  exact Lc.le (Pk.bind K.fa (C.unak h K) (fun _ _ => Ge.ok _ _) fun _ _ _ _ K => Lc.ok (by rw [t.mk']) K.e) (Nat.le_succ _)) (fun _ _ => (C.postR_k h F).lc), unaS_s l C.G h i, unaS_b C.E C.B h F.a, unaS_b C.E' C.B' h F.b⟩
omit i i' in
theorem Cx.binF_l (h : Bool) {m : Int} (hm : 1 ≤ m) : ∀ f f' t0 i i', FB l l' d n n' i i' → l.length - i < f → l'.length - i' < f' → Lc l l' d i (binF l p h m f t0 i) (binF l' p' h m f' t0 i')
  | 0, _, _, _, _, _, h, _ => by omega
  | _ + 1, 0, _, _, _, _, _, h => by omega
  | f + 1, f' + 1, t0, i, i', F, h0, h' => Lc.at (binF_g l C.G _ _ _ _ _) F.e fun t => by
    unfold binF
    refine Lc.ite (by rw [t.mk']) (fun h1 h2 => ?_) (fun _ _ => Lc.ok rfl F.e)
    have K : FB l l' d n n' (i + 1) (i' + 1) := F.fa.on (Nat.lt_succ_self _) (by have := F.e; omega) (C.E.r hm F.a h1) (C.E'.r hm F.b h2)
    rw [t.mk']
    exact Lc.le (Pk.bind K.fa (C.bink h (by omega) K) (fun _ _ => binF_g l C.G _ _ _ _ _) fun _ k k' _ K => Cx.binF_l h hm f f' _ k k' K (by have := F.a; omega) (by have := F.b; have := F.e; have := K.e; omega)) (Nat.le_succ _)
theorem Cx.binS_l (h : Bool) {m : Int} (hm : 1 ≤ m) (F : FA l l' d n n' i i') (h1 : 3 * (l.length - i) ≤ n) (h2 : 3 * (l'.length - i') ≤ n') : Lc l l' d i (binS l p h m i) (binS l' p' h m i') :=
  Pk.bind F ⟨C.una h _ _ F.e F.a F.b h1 h2, C.G.una h i, C.B.una h i F.a, C.B'.una h i' F.b⟩ (fun _ _ => binF_g l C.G _ _ _ _ _) fun _ k k' _ K => C.binF_l h hm _ _ _ k k' K (by omega) (by omega)
theorem Cx.ifSS_l (F : FA l l' d n n' i i') (h1 : 3 * (l.length - i) + 1 ≤ n) (h2 : 3 * (l'.length - i') + 1 ≤ n') : Lc l l' d i (ifSS l p i) (ifSS l' p' i') :=
  Pk.bind F ⟨C.bin true 1 _ _ (by decide) F.e F.a F.b h1 h2, C.G.bin _ _ i, C.B.bin _ _ i (by decide) F.a, C.B'.bin _ _ i' (by decide) F.b⟩ (fun _ _ => Ge.bind (C.G.blk _).ge fun _ _ => Ge.ite (Ge.ite (Gs.next2 (Ge.bind (C.G.ifS _).ge fun _ _ => Ge.ok _ _)).ge (Gs.next (Ge.bind (C.G.blk _).ge fun _ _ => Ge.ok _ _)).ge) (Ge.ok _ _)) fun _ _ _ _ K =>
    Pk.bind K.fa (C.blkk K) (fun _ _ => Ge.ite (Ge.ite (Gs.next2 (Ge.bind (C.G.ifS _).ge fun _ _ => Ge.ok _ _)).ge (Gs.next (Ge.bind (C.G.blk _).ge fun _ _ => Ge.ok _ _)).ge) (Ge.ok _ _)) fun _ k k' _ K =>
      Lc.at (Ge.ite (Ge.ite (Gs.next2 (Ge.bind (C.G.ifS _).ge fun _ _ => Ge.ok _ _)).ge (Gs.next (Ge.bind (C.G.blk _).ge fun _ _ => Ge.ok _ _)).ge) (Ge.ok _ _)) K.e fun t => Lc.ite (by simp only [t.me]) (fun g1 g2 => by
        have K1 := C.m1 (by decide) K.fa g1 g2
        refine Lc.le (Lc.at (i' := k' + 1) (Ge.ite (Gs.next (Ge.bind (C.G.ifS _).ge fun _ _ => Ge.ok _ _)).ge (Ge.bind (C.G.blk _).ge fun _ _ => Ge.ok _ _)) K1.e fun t1 => Lc.ite (by simp only [t1.me]) (fun g3 g4 => ?_) (fun _ _ => Pk.bind K1.fa (C.blkk K1) (fun _ _ => Ge.ok _ _) fun _ _ _ _ K => Lc.ok rfl K.e)) (Nat.le_succ _)
        have K2 := C.m1 (by decide) K1.fa g3 g4
        exact Lc.le (Pk.bind K2.fa (C.ifk K2) (fun _ _ => Ge.ok _ _) fun _ _ _ _ K => Lc.ok rfl K.e) (Nat.le_succ _)) (fun _ _ => Lc.ok rfl K.e)
theorem Cx.forR_k (F : FB l l' d n n' i i') : Pk l l' d i (forR l p i) (forR l' p' i') := ⟨Lc.at ((forR_s l C.G i).ge) F.e fun t => Lc.ite (by simp only [t.me]) (fun _ _ => Pk.bind F.fa (C.blkk F) (fun _ _ => Ge.ok _ _) fun _ _ _ _ K => Lc.ok rfl K.e) (fun _ _ => Pk.bind F.fa (C.exprR_k true F) (fun _ _ => Ge.bind (C.G.blk _).ge fun _ _ => Ge.ok _ _) fun _ _ _ _ K => Pk.bind K.fa (C.blkk K) (fun _ _ => Ge.ok _ _) fun _ _ _ _ K => Lc.ok rfl K.e), forR_s l C.G i, forR_b C.B F.a, forR_b C.B' F.b⟩
theorem Cx.variableR_k (h : Bool) (F : FA l l' d n n' i i') : Pk l l' d i (variableR l p h i) (variableR l' p' h i') := ⟨Pk.bind F (C.nameR_k F) (fun _ _ => Ge.bind (C.G.typ _).ge fun _ _ => Ge.ite (Gs.next (Ge.bind (exprR_s C.G _ _).ge fun _ _ => Ge.ok _ _)).ge (Ge.ok _ _)) fun _ _ _ _ K => Pk.bind K.fa (C.typk K) (fun _ _ => Ge.ite (Gs.next (Ge.bind (exprR_s C.G _ _).ge fun _ _ => Ge.ok _ _)).ge (Ge.ok _ _)) fun _ k k' _ K => Lc.at (Ge.ite (Gs.next (Ge.bind (exprR_s C.G _ _).ge fun _ _ => Ge.ok _ _)).ge (Ge.ok _ _)) K.e fun t => Lc.ite (by simp only [t.me]) (fun g1 g2 => Lc.le (Pk.bind (C.m1 (by decide) K.fa g1 g2).fa (C.exprR_k h (C.m1 (by decide) K.fa g1 g2)) (fun _ _ => Ge.ok _ _) fun _ _ _ _ K => Lc.ok rfl K.e) (Nat.le_succ _)) (fun _ _ => Lc.ok rfl K.e), variableR_s l C.G h i, variableR_b C.E C.B h F.a, variableR_b C.E' C.B' h F.b⟩
theorem Cx.assignedR_l (h : Bool) (kind : Int) (ts : List Tr) (F : FB l l' d n n' (i + 1) (i' + 1)) : Lc l l' d i (assignedR l p h kind ts i) (assignedR l' p' h kind ts i') := Lc.le (Pk.bind F.fa (C.exprsR_k h F) (fun _ _ => Ge.ok _ _) fun _ _ _ _ K => Lc.ok rfl K.e) (Nat.le_succ _)
theorem Cx.assignmentR_k (h : Bool) (F : FB l l' d n n' i i') : Pk l l' d i (assignmentR l p h i) (assignmentR l' p' h i') := by
  have hg : ∀ (es : List Tr) k, Ge k (if isM l k [58, 61] && es.all isNameT then assignedR l p h 22 es k else if isM l k [61] && es.all isPlaceT then assignedR l p h 23 es k else match es with
      | [e] => if isCallT e then .ok (.mk 24 [] 0 [e]) k else .bad k
      | _ => .bad k) := fun es k => Ge.ite (assignedR_s l C.G _ _ _ _).ge (Ge.ite (assignedR_s l C.G _ _ _ _).ge (by
    split
    · exact Ge.ite (Ge.ok _ _) (Ge.bad _)
    · exact Ge.bad _))
  refine ⟨Pk.bind F.fa (C.exprsR_k h F) hg fun es k k' _ K => Lc.at (hg es k) K.e fun t => ?_, assignmentR_s l C.G h i, assignmentR_b C.E C.B h F.a, assignmentR_b C.E' C.B' h F.b⟩
  refine Lc.ite (by simp only [t.me]) (fun g1 g2 => ?_) (fun _ _ => Lc.ite (by simp only [t.me]) (fun g1 g2 => ?_) (fun _ _ => ?_))
  · simp only [Bool.and_eq_true] at g1 g2
    exact C.assignedR_l h _ _ (C.m1 (by decide) K.fa g1.1 g2.1)
  · simp only [Bool.and_eq_true] at g1 g2
    exact C.assignedR_l h _ _ (C.m1 (by decide) K.fa g1.1 g2.1)
  · split
    · exact Lc.ite Iff.rfl (fun _ _ => Lc.ok rfl K.e) (fun _ _ => Lc.bad K.e)
    · exact Lc.bad K.e
theorem Cx.simpleR_k (h : Bool) (F : FB l l' d n n' i i') : Pk l l' d i (simpleR l p h i) (simpleR l' p' h i') := by
  refine ⟨Lc.at (simpleR_s l C.G h i).ge F.e fun t => ?_, simpleR_s l C.G h i, simpleR_b C.E C.B h F.a, simpleR_b C.E' C.B' h F.b⟩
  refine Lc.ite (by simp only [t.me]) (fun g1 g2 => (C.variableR_k h (C.m1 (by decide) F.fa g1 g2).fa).lc.le (Nat.le_succ _)) (fun _ _ => Lc.ite (by simp only [t.me]) (fun _ _ => Lc.ok rfl (by have := F.e; omega)) (fun _ _ => Lc.ite (by simp only [t.me]) (fun _ _ => Lc.ok rfl (by have := F.e; omega)) (fun _ _ => Lc.ite (by simp only [t.me]) (fun g1 g2 => ?_) (fun _ _ => (C.assignmentR_k h F).lc))))
  have K := C.m1 (by decide) F.fa g1 g2
  exact Lc.le (Lc.at (i' := i' + 1) (Ge.ite (Ge.ok _ _) (Ge.bind (exprsR_s l C.G _ _).ge fun _ _ => Ge.ok _ _)) K.e fun t1 => Lc.ite (by simp only [t1.me]) (fun _ _ => Lc.ok rfl K.e) (fun _ _ => Pk.bind K.fa (C.exprsR_k h K) (fun _ _ => Ge.ok _ _) fun _ _ _ _ K => Lc.ok rfl K.e)) (Nat.le_succ _)
theorem Cx.stmtR_k (h : Bool) (F : FB l l' d n n' i i') : Pk l l' d i (stmtR l p h i) (stmtR l' p' h i') := by
  refine ⟨Lc.at (stmtR_s l C.G h i).ge F.e fun t => ?_, stmtR_s l C.G h i, stmtR_b C.E C.B h F.a, stmtR_b C.E' C.B' h F.b⟩
  exact Lc.ite (by simp only [t.me]) (fun _ _ => (C.blkk F).lc) (fun _ _ => Lc.ite (by simp only [t.me]) (fun g1 g2 => (C.ifk (C.m1 (by decide) F.fa g1 g2)).lc.le (Nat.le_succ _)) (fun _ _ => Lc.ite (by simp only [t.me]) (fun g1 g2 => (C.forR_k (C.m1 (by decide) F.fa g1 g2)).lc.le (Nat.le_succ _))
    (fun _ _ => Pk.bind F.fa (C.simpleR_k h F) (fun _ _ => Ge.bind (needR_g l _ _) fun _ _ => Ge.ok _ _) fun _ _ _ _ K => Pk.bind K.fa (C.needR_k (by decide) K.fa) (fun _ _ => Ge.ok _ _) fun _ _ _ _ K => Lc.ok rfl K.e)))
theorem Cx.itStmt : It l l' d n n' (stmtR l p false) (stmtR l' p' false) := ⟨fun _ _ F => C.stmtR_k false F, stmtR_s l C.G false, fun _ h => stmtR_b C.E C.B false h, fun _ h => stmtR_b C.E' C.B' false h⟩
theorem Cx.blkS_k (F : FA l l' d n n' i i') : Pk l l' d i (blkS l p i) (blkS l' p' i') := ⟨Pk.bind F (C.membersR_k C.itStmt F) (fun _ _ => Ge.ok _ _) fun _ _ _ _ K => Lc.ok rfl K.e, blkS_s l C.G i, blkS_b C.E C.B F.a, blkS_b C.E' C.B' F.b⟩
theorem Cx.fieldR_k (F : FA l l' d n n' i i') : Pk l l' d i (fieldR l p i) (fieldR l' p' i') := ⟨Pk.bind F (C.nameR_k F) (fun _ _ => Ge.bind (C.G.typ _).ge fun _ _ => Ge.bind (needR_g l _ _) fun _ _ => Ge.ok _ _) fun _ _ _ _ K => Pk.bind K.fa (C.typk K) (fun _ _ => Ge.bind (needR_g l _ _) fun _ _ => Ge.ok _ _) fun _ _ _ _ K => Pk.bind K.fa (C.needR_k (by decide) K.fa) (fun _ _ => Ge.ok _ _) fun _ _ _ _ K => Lc.ok rfl K.e, fieldR_s l C.G i, fieldR_b C.E C.B F.a, fieldR_b C.E' C.B' F.b⟩
theorem Cx.methodR_k (F : FA l l' d n n' i i') : Pk l l' d i (methodR l p i) (methodR l' p' i') := ⟨Pk.bind F (C.nameR_k F) (fun _ _ => Ge.bind (sigR_s l C.G _).ge fun _ _ => Ge.bind (needR_g l _ _) fun _ _ => Ge.ok _ _) fun _ _ _ _ K => Pk.bind K.fa (C.sigR_k K.fa) (fun _ _ => Ge.bind (needR_g l _ _) fun _ _ => Ge.ok _ _) fun _ _ _ _ K => Pk.bind K.fa (C.needR_k (by decide) K.fa) (fun _ _ => Ge.ok _ _) fun _ _ _ _ K => Lc.ok rfl K.e, methodR_s l C.G i, methodR_b C.E C.B F.a, methodR_b C.E' C.B' F.b⟩
theorem Cx.receiverR_k (F : FA l l' d n n' i i') : Pk l l' d i (receiverR l i) (receiverR l' i') := ⟨Pk.bind F (C.nameR_k F) (fun _ _ => Ge.bind (needR_g l _ _) fun _ _ => Ge.bind (nameR_g l _) fun _ _ => Ge.ok _ _) fun _ _ _ _ K => Pk.bind K.fa (C.needR_k (by decide) K.fa) (fun _ _ => Ge.bind (nameR_g l _) fun _ _ => Ge.ok _ _) fun _ _ _ _ K => Pk.bind K.fa (C.nameR_k K.fa) (fun _ _ => Ge.ok _ _) fun _ _ _ _ K => Lc.ok rfl K.e, receiverR_s l i, receiverR_b C.E F.a, receiverR_b C.E' F.b⟩
theorem Cx.itField : It l l' d n n' (fieldR l p) (fieldR l' p') := ⟨fun _ _ F => C.fieldR_k F.fa, fieldR_s l C.G, fun _ h => fieldR_b C.E C.B h, fun _ h => fieldR_b C.E' C.B' h⟩
theorem Cx.itMethod : It l l' d n n' (methodR l p) (methodR l' p') := ⟨fun _ _ F => C.methodR_k F.fa, methodR_s l C.G, fun _ h => methodR_b C.E C.B h, fun _ h => methodR_b C.E' C.B' h⟩
theorem Cx.typeDeclR_k (F : FA l l' d n n' i i') : Pk l l' d i (typeDeclR l p i) (typeDeclR l' p' i') := ⟨Pk.bind F (C.nameR_k F) (fun _ _ => Ge.ite (Gs.next (Ge.bind (membersR_s l (fieldR_s l C.G) _).ge fun _ _ => Ge.ok _ _)).ge (Ge.bind (needR_g l _ _) fun _ _ => Ge.bind (membersR_s l (methodR_s l C.G) _).ge fun _ _ => Ge.ok _ _)) fun _ k k' _ K => Lc.at (Ge.ite (Gs.next (Ge.bind (membersR_s l (fieldR_s l C.G) _).ge fun _ _ => Ge.ok _ _)).ge (Ge.bind (needR_g l _ _) fun _ _ => Ge.bind (membersR_s l (methodR_s l C.G) _).ge fun _ _ => Ge.ok _ _)) K.e fun t => Lc.ite (by simp only [t.me]) (fun g1 g2 => Lc.le (Pk.bind (C.m1 (by decide) K.fa g1 g2).fa (C.membersR_k C.itField (C.m1 (by decide) K.fa g1 g2).fa) (fun _ _ => Ge.ok _ _) fun _ _ _ _ K => Lc.ok rfl K.e) (Nat.le_succ _)) (fun _ _ => Pk.bind K.fa (C.needR_k (by decide) K.fa) (fun _ _ => Ge.bind (membersR_s l (methodR_s l C.G) _).ge fun _ _ => Ge.ok _ _) fun _ _ _ _ K => Pk.bind K.fa (C.membersR_k C.itMethod K.fa) (fun _ _ => Ge.ok _ _) fun _ _ _ _ K => Lc.ok rfl K.e), typeDeclR_s l C.G i, typeDeclR_b C.E C.B F.a, typeDeclR_b C.E' C.B' F.b⟩
theorem Cx.declR_k (F : FB l l' d n n' i i') : Pk l l' d i (declR l p i) (declR l' p' i') := ⟨Lc.at ((declR_s l C.G i).ge) F.e fun t => Lc.ite (by simp only [t.me]) (fun g1 g2 => (C.typeDeclR_k (C.m1 (by decide) F.fa g1 g2).fa).lc.le (Nat.le_succ _)) (fun _ _ => Pk.bind F.fa (C.needR_k (by decide) F.fa) (fun _ _ => Ge.ite (Ge.bind (betweenR_s l (fun k => (receiverR_s l k).ge) _ _ _).ge fun _ _ => Ge.bind (nameR_g l _) fun _ _ => Ge.bind (sigR_s l C.G _).ge fun _ _ => Ge.bind (C.G.blk _).ge fun _ _ => Ge.ok _ _) (Ge.bind (nameR_g l _) fun _ _ => Ge.bind (sigR_s l C.G _).ge fun _ _ => Ge.bind (C.G.blk _).ge fun _ _ => Ge.ok _ _)) fun _ k k' _ K => Lc.at (Ge.ite (Ge.bind (betweenR_s l (fun k => (receiverR_s l k).ge) _ _ _).ge fun _ _ => Ge.bind (nameR_g l _) fun _ _ => Ge.bind (sigR_s l C.G _).ge fun _ _ => Ge.bind (C.G.blk _).ge fun _ _ => Ge.ok _ _) (Ge.bind (nameR_g l _) fun _ _ => Ge.bind (sigR_s l C.G _).ge fun _ _ => Ge.bind (C.G.blk _).ge fun _ _ => Ge.ok _ _)) K.e fun t => Lc.ite (by simp only [t.me]) (fun _ _ => Pk.bind K.fa ⟨C.betweenR_l (fun k => (receiverR_s l k).ge) (fun _ _ K => (C.receiverR_k K.fa).wk) (by decide) (by decide) K.fa, betweenR_s l (fun k => (receiverR_s l k).ge) _ _ _, betweenR_b C.E (fun _ hk => receiverR_b C.E hk) (by decide) (by decide) K.a, betweenR_b C.E' (fun _ hk => receiverR_b C.E' hk) (by decide) (by decide) K.b⟩ (fun _ _ => Ge.bind (nameR_g l _) fun _ _ => Ge.bind (sigR_s l C.G _).ge fun _ _ => Ge.bind (C.G.blk _).ge fun _ _ => Ge.ok _ _) fun _ _ _ _ K => Pk.bind K.fa (C.nameR_k K.fa) (fun _ _ => Ge.bind (sigR_s l C.G _).ge fun _ _ => Ge.bind (C.G.blk _).ge fun _ _ => Ge.ok _ _) fun _ _ _ _ K => Pk.bind K.fa (C.sigR_k K.fa) (fun _ _ => Ge.bind (C.G.blk _).ge fun _ _ => Ge.ok _ _) fun _ _ _ _ K => Pk.bind K.fa (C.blkk K) (fun _ _ => Ge.ok _ _) fun _ _ _ _ K => Lc.ok rfl K.e) (fun _ _ => Pk.bind K.fa (C.nameR_k K.fa) (fun _ _ => Ge.bind (sigR_s l C.G _).ge fun _ _ => Ge.bind (C.G.blk _).ge fun _ _ => Ge.ok _ _) fun _ _ _ _ K => Pk.bind K.fa (C.sigR_k K.fa) (fun _ _ => Ge.bind (C.G.blk _).ge fun _ _ => Ge.ok _ _) fun _ _ _ _ K => Pk.bind K.fa (C.blkk K) (fun _ _ => Ge.ok _ _) fun _ _ _ _ K => Lc.ok rfl K.e)), declR_s l C.G i, declR_b C.E C.B F.a, declR_b C.E' C.B' F.b⟩
theorem Cx.itDecl : It l l' d n n' (declR l p) (declR l' p') := ⟨fun _ _ F => C.declR_k F, declR_s l C.G, fun _ h => declR_b C.E C.B h, fun _ h => declR_b C.E' C.B' h⟩
end
theorem cxs {l l' : List Tk} (E : Ended l) (E' : Ended l') (d : Nat) : ∀ n n', Cx l l' d n n' (ps l n) (ps l' n')
  | 0, n' => ⟨E, E', ps_s l 0, ps_b E 0, ps_b E' n', fun _ _ _ _ _ h _ => by omega, fun _ _ _ _ _ _ _ _ h _ => by omega, fun _ _ _ _ _ _ h _ => by omega, fun _ _ _ _ _ h _ => by omega, fun _ _ _ _ _ h _ => by omega⟩
  | n + 1, 0 => ⟨E, E', ps_s l _, ps_b E _, ps_b E' 0, fun _ _ _ _ _ _ h => by omega, fun _ _ _ _ _ _ _ _ _ h => by omega, fun _ _ _ _ _ _ _ h => by omega, fun _ _ _ _ _ _ h => by omega, fun _ _ _ _ _ _ h => by omega⟩
  | n + 1, n' + 1 =>
    have C := cxs E E' d n n'
    ⟨E, E', ps_s l _, ps_b E _, ps_b E' _, fun _ _ e a b h1 h2 => (C.typS_k ⟨e, a, b, h1, h2⟩).lc, fun h _ _ _ hm e a b h1 h2 => C.binS_l h hm ⟨e, a, b, by omega, by omega⟩ (by omega) (by omega), fun h _ _ e a b h1 h2 => (C.unaS_k h ⟨e, a, b, h1, h2⟩).lc, fun _ _ e a b h1 h2 => (C.blkS_k ⟨e, a, b, h1, h2⟩).lc, fun _ _ e a b h1 h2 => C.ifSS_l ⟨e, a, b, by omega, by omega⟩ (by omega) (by omega)⟩
end Go.Proofs.YtnkphlkjhgngkaaGreatDoor

namespace Go.Proofs.YtnkphlkjhgngkaaGreatDoor

/-- The tokens of a text, with the end's. -/
def withEnd (ts : List Tk) (n : Nat) : List Tk := ts ++ [(4, [], 0, n)]
theorem withEnd_len (ts : List Tk) (n : Nat) : (withEnd ts n).length = ts.length + 1 := by simp [withEnd]
theorem withEnd_last (ts : List Tk) (n : Nat) : tkA (withEnd ts n) ts.length = (4, [], 0, n) := by simp [tkA, withEnd, List.getD_eq_getElem?_getD]
theorem withEnd_at (ts : List Tk) (n : Nat) {k : Nat} (h : k < ts.length) : tkA (withEnd ts n) k = ts[k] := by simp [tkA, withEnd, List.getD_eq_getElem?_getD, List.getElem?_append_left h, h]
theorem ended (ts : List Tk) (n : Nat) : Ended (withEnd ts n) := ⟨fun i hi hn => by
  rw [withEnd_len] at hi ⊢
  rcases Nat.lt_or_ge i ts.length with h | h
  · omega
  · exfalso; apply hn
    have e : i = ts.length := by omega
    rw [e]; simp [kindA, textA, withEnd_last]⟩
theorem FB.top {l l' : List Tk} (h : 0 < l.length) (h' : 0 < l'.length) : FB l l' 0 (3 * l.length + 3) (3 * l'.length + 3) 0 0 := ⟨rfl, h, h', by omega, by omega⟩
theorem treeR_l {l l' : List Tk} (E : Ended l) (E' : Ended l') (h : 0 < l.length) (h' : 0 < l'.length) : Lc l l' 0 0 (treeR l) (treeR l') :=
  Wk.bind (FB.top h h') ((cxs E E' 0 _ _).itDecl.upToR_k [] (FB.top h h')) (fun _ _ => Ge.ok _ _) fun _ _ _ _ K => Lc.ok rfl K.e
/-- Where the tokens end at the fault, the fault is at the end, or there is none. -/
theorem treeR_cut (ts : List Tk) (n n' j : Nat) (h : (treeR (withEnd ts n)).idx = j) (hj : j ≤ ts.length) : (treeR (withEnd (ts.take j) n')).idx = j := by
  have E := ended ts n
  have E' := ended (ts.take j) n'
  have h0 : 0 < (withEnd ts n).length := by rw [withEnd_len]; omega
  have h0' : 0 < (withEnd (ts.take j) n').length := by rw [withEnd_len]; omega
  have b : Bd _ (treeR (withEnd (ts.take j) n')) := progR_b E' (ps_b E' _) h0'
  have b1 : (treeR (withEnd (ts.take j) n')).idx < j + 1 := by
    have : (withEnd (ts.take j) n').length = j + 1 := by rw [withEnd_len]; simp [hj]
    rw [← this]; exact b
  rcases Nat.lt_or_ge (treeR (withEnd (ts.take j) n')).idx j with h1 | h1
  · exfalso
    have e := treeR_l E' E h0' h0 fun k _ hk => by
      have hk' : k < j := by omega
      have ek : tkA (withEnd ts n) (k + 0) = tkA (withEnd (ts.take j) n') k := by
        rw [Nat.add_zero, withEnd_at ts n (by omega), withEnd_at (ts.take j) n' (by simp; omega)]; simp
      exact ⟨by simp only [kindA, ek], by simp only [textA, ek], by simp only [numA, ek]⟩
    have e2 : (treeR (withEnd ts n)).idx = (treeR (withEnd (ts.take j) n')).idx := by
      rw [e]; cases treeR (withEnd (ts.take j) n') <;> rfl
    omega
  · omega

/-- What ends with a token that it takes hangs on the tokens ahead alone. -/
def Cl {α : Type} (l l' : List Tk) (i : Nat) (r r' : Res α) : Prop := ∀ a k, r = .ok a k → (∀ m, i ≤ m → m < k → TkE l l' m m) → r' = .ok a k
section
variable {l l' : List Tk} {i : Nat} {α β : Type} {r r' : Res α} {f f' : α → Nat → Res β}
theorem Cl.bind (h : Lc l l' 0 i r r') (g : Ge i r) (hf : ∀ a k, Gs k (f a k)) (hk : ∀ a k, i ≤ k → r = .ok a k → r' = .ok a k → Cl l l' k (f a k) (f' a k)) : Cl l l' i (r.bind f) (r'.bind f') := by
  intro b k e hA
  cases r with
  | bad j => cases e
  | ok a k1 =>
    have e1 : f a k1 = .ok b k := e
    have h1 : k1 < k := by have := hf a k1; rw [e1] at this; exact this
    have e2 := h fun m h2 h3 => by
      have h3' : m ≤ k1 := h3
      exact hA m h2 (by omega)
    rw [e2]
    exact hk a k1 g rfl e2 b k e1 fun m h2 h3 => hA m (Nat.le_trans g h2) h3
theorem Cl.last {g : α → β} (h : Cl l l' i r r') : Cl l l' i (r.bind fun a k => .ok (g a) k) (r'.bind fun a k => .ok (g a) k) := by
  intro b k e hA
  cases hr : r with
  | bad j => rw [hr] at e; cases e
  | ok a k1 =>
    rw [hr] at e
    have e1 : (.ok (g a) k1 : Res β) = .ok b k := e
    injection e1 with e2 e3
    rw [h a k1 hr (by rw [e3]; exact hA), ← e2, ← e3]; rfl
theorem Cl.at {r r' : Res α} (g : Gs i r) (h : TkE l l' i i → Cl l l' i r r') : Cl l l' i r r' := fun a k e hA => by
  have hk : i < k := by rw [e] at g; exact g
  exact h (hA i (Nat.le_refl _) hk) a k e hA
theorem Cl.le {j : Nat} (h : Cl l l' j r r') (hj : i ≤ j) : Cl l l' i r r' := fun a k e hA => h a k e fun m h1 h2 => hA m (Nat.le_trans hj h1) h2
theorem Cl.ite {a b a' b' : Res α} {c c' : Prop} [Decidable c] [Decidable c'] (hc : c' ↔ c) (h1 : c → c' → Cl l l' i a a') (h2 : ¬ c → ¬ c' → Cl l l' i b b') : Cl l l' i (if c then a else b) (if c' then a' else b') := by
  by_cases h : c
  · rw [if_pos h, if_pos (hc.2 h)]; exact h1 h (hc.2 h)
  · rw [if_neg h, if_neg (fun h' => h (hc.1 h'))]; exact h2 h (fun h' => h (hc.1 h'))
theorem needR_c (s : List UInt8) : Cl l l' i (needR l s i) (needR l' s i) := Cl.at (needR_s l s i) fun t => Cl.ite (by simp only [t.me]) (fun _ _ => fun a k e _ => e) (fun _ _ => fun a k e _ => by cases e)
end
section
variable {l l' : List Tk} {n n' i : Nat} {p p' : Ps} (C : Cx l l' 0 n n' p p')
include C
theorem Cx.betweenR_c {α : Type} {inner inner' : Nat → Res α} (hg : ∀ k, Ge k (inner k)) (hk : ∀ k k', FB l l' 0 n n' k k' → Wk l l' 0 k (inner k) (inner' k')) {o s : List UInt8} (ho : o ≠ []) (F : FA l l' 0 n n' i i) : Cl l l' i (betweenR l o s inner i) (betweenR l' o s inner' i) := by
  refine Cl.bind (C.needR_k ho F).lc (needR_g l o i) (fun _ k => Gs.bind' (hg k) fun _ _ => Gs.bind (needR_s l s _) fun _ _ => Ge.ok _ _) fun _ k h0 h1 h2 => ?_
  have g : i < k := by have := needR_s l o i; rw [h1] at this; exact this
  have b1 : k < l.length := by have := needR_b C.E ho F.a; rw [h1] at this; exact this
  have b2 : k < l'.length := by have := needR_b C.E' ho F.b; rw [h2] at this; exact this
  have K := F.on g rfl b1 b2
  exact Cl.bind (hk k k K).lc (hg k) (fun _ k => Gs.bind (needR_s l s k) fun _ _ => Ge.ok _ _) fun _ k _ _ _ => Cl.last (needR_c s)
theorem Cx.membersR_c {item item' : Nat → Res Tr} (I : It l l' 0 n n' item item') (F : FA l l' 0 n n' i i) : Cl l l' i (membersR l item i) (membersR l' item' i) :=
  C.betweenR_c (upToR_g l I.s _) (fun _ _ K => I.upToR_k _ K) (by decide) F
theorem Cx.blkS_c (F : FA l l' 0 n n' i i) : Cl l l' i (blkS l p i) (blkS l' p' i) := Cl.last (C.membersR_c C.itStmt F)
omit C in
/-- A step on, as in Pk.bind. -/
theorem Cx.step {α β : Type} {r r' : Res α} {f f' : α → Nat → Res β} (F : FA l l' 0 n n' i i) (h : Pk l l' 0 i r r') (hf : ∀ a k, Gs k (f a k)) (hk : ∀ a k, FB l l' 0 n n' k k → Cl l l' k (f a k) (f' a k)) : Cl l l' i (r.bind f) (r'.bind f') :=
  Cl.bind h.lc h.g.ge hf fun a k _ h1 h2 => by
    have b1 := h.b; have b2 := h.b'; have g := h.g
    rw [h1] at b1 g; rw [h2] at b2
    exact hk a k (F.on g rfl b1 b2)
theorem Cx.typeDeclR_c (F : FA l l' 0 n n' i i) : Cl l l' i (typeDeclR l p i) (typeDeclR l' p' i) := by
  have hs : ∀ (s : List UInt8) k, Gs k (if isM l k [115, 116, 114, 117, 99, 116] then (membersR l (fieldR l p) (k + 1)).bind fun ks i => .ok (Tr.mk 2 s 0 ks) i
    else (needR l [105, 110, 116, 101, 114, 102, 97, 99, 101] k).bind fun _ i => (membersR l (methodR l p) i).bind fun ks i => .ok (.mk 3 s 0 ks) i) := fun s k => Gs.ite (Gs.next (Ge.bind (membersR_s l (fieldR_s l C.G) _).ge fun _ _ => Ge.ok _ _)) (Gs.bind (needR_s l _ _) fun _ _ => Ge.bind (membersR_s l (methodR_s l C.G) _).ge fun _ _ => Ge.ok _ _)
  refine Cx.step F (C.nameR_k F) hs fun s k K => Cl.at (hs s k) fun t => Cl.ite (by simp only [t.me]) (fun g1 g2 => ?_) (fun _ _ => ?_)
  · exact Cl.le (Cl.last (C.membersR_c C.itField (C.m1 (by decide) K.fa g1 g2).fa)) (Nat.le_succ _)
  · exact Cx.step K.fa (C.needR_k (by decide) K.fa) (fun _ _ => Gs.bind (membersR_s l (methodR_s l C.G) _) fun _ _ => Ge.ok _ _) fun _ k K => Cl.last (C.membersR_c C.itMethod K.fa)
theorem Cx.declR_c (hb : ∀ k, FB l l' 0 n n' k k → Cl l l' k (p.blk k) (p'.blk k)) (F : FB l l' 0 n n' i i) : Cl l l' i (declR l p i) (declR l' p' i) := by
  refine Cl.at (declR_s l C.G i) fun t => Cl.ite (by simp only [t.me]) (fun g1 g2 => Cl.le (C.typeDeclR_c (C.m1 (by decide) F.fa g1 g2).fa) (Nat.le_succ _)) (fun _ _ => ?_)
  have s1 : ∀ (x : Tr → Tr) k, Gs k ((p.blk k).bind fun b i => .ok (x b) i) := fun _ k => Gs.bind (C.G.blk k) fun _ _ => Ge.ok _ _
  have s2 : ∀ (x : Tr → Tr → Tr) k, Gs k ((sigR l p k).bind fun g i => (p.blk i).bind fun b i => .ok (x g b) i) := fun _ k => Gs.bind (sigR_s l C.G k) fun _ _ => (Gs.bind (C.G.blk _) fun _ _ => Ge.ok _ _).ge
  have s3 : ∀ (x : List UInt8 → Tr → Tr → Tr) k, Gs k ((nameR l k).bind fun s i => (sigR l p i).bind fun g i => (p.blk i).bind fun b i => .ok (x s g b) i) := fun x k => Gs.bind (nameR_s l k) fun _ _ => (s2 _ _).ge
  have hs : ∀ k, Gs k (if isM l k [40] then (betweenR l [40] [41] (receiverR l) k).bind fun r i => (nameR l i).bind fun s i => (sigR l p i).bind fun g i => (p.blk i).bind fun b i => .ok (Tr.mk 5 s 0 [r, g, b]) i
    else (nameR l k).bind fun s i => (sigR l p i).bind fun g i => (p.blk i).bind fun b i => .ok (.mk 4 s 0 [g, b]) i) := fun k => Gs.ite (Gs.bind (betweenR_s l (fun k => (receiverR_s l k).ge) _ _ _) fun r _ => (s3 (fun s g b => .mk 5 s 0 [r, g, b]) _).ge) (s3 (fun s g b => .mk 4 s 0 [g, b]) _)
  have tail : ∀ (x : List UInt8 → Tr → Tr → Tr) k, FB l l' 0 n n' k k → Cl l l' k ((nameR l k).bind fun s i => (sigR l p i).bind fun g i => (p.blk i).bind fun b i => .ok (x s g b) i) ((nameR l' k).bind fun s i => (sigR l' p' i).bind fun g i => (p'.blk i).bind fun b i => .ok (x s g b) i) := fun x k K =>
    Cx.step K.fa (C.nameR_k K.fa) (fun _ _ => s2 _ _) fun _ k K => Cx.step K.fa (C.sigR_k K.fa) (fun _ _ => s1 _ _) fun _ k K => Cl.last (hb k K)
  refine Cx.step F.fa (C.needR_k (by decide) F.fa) (fun _ k => hs k) fun _ k K => Cl.at (hs k) fun t => Cl.ite (by simp only [t.me]) (fun _ _ => ?_) (fun _ _ => tail (fun s g b => .mk 4 s 0 [g, b]) k K)
  exact Cx.step K.fa ⟨C.betweenR_l (fun k => (receiverR_s l k).ge) (fun _ _ K => (C.receiverR_k K.fa).wk) (by decide) (by decide) K.fa, betweenR_s l (fun k => (receiverR_s l k).ge) _ _ _, betweenR_b C.E (fun _ hk => receiverR_b C.E hk) (by decide) (by decide) K.a, betweenR_b C.E' (fun _ hk => receiverR_b C.E' hk) (by decide) (by decide) K.b⟩ (fun r _ => s3 (fun s g b => .mk 5 s 0 [r, g, b]) _) fun r k K => tail (fun s g b => .mk 5 s 0 [r, g, b]) k K
end
theorem declR_cl {l l' : List Tk} (E : Ended l) (E' : Ended l') {n n' i : Nat} (F : FB l l' 0 (n + 1) (n' + 1) i i) : Cl l l' i (declR l (ps l (n + 1)) i) (declR l' (ps l' (n' + 1)) i) :=
  (cxs E E' 0 (n + 1) (n' + 1)).declR_c (fun _ K => (cxs E E' 0 n n').blkS_c ⟨rfl, K.a, K.b, by have := K.c; omega, by have := K.c'; omega⟩) F

theorem upToF_pre {l : List Tk} {m : List UInt8} {it : Nat → Res Tr} (a : List Tr) : ∀ f b i, upToF l m it f (a ++ b) i = (upToF l m it f b i).bind fun ks j => .ok (a ++ ks) j
  | 0, _, _ => rfl
  | f + 1, b, i => by
    unfold upToF
    split
    · rfl
    · cases it i with
      | bad j => rfl
      | ok t j =>
        simp only [Res.bind]
        rw [List.append_assoc, upToF_pre a f (b ++ [t]) j]; rfl
/-- The first declarations of tokens with others behind them. -/
theorem upToF_first {ts us : List Tk} {n n' : Nat} (hne : ∀ i, i < ts.length → isM (withEnd ts n) i [] = false) (hag : ∀ k, k < ts.length → TkE (withEnd ts n) (withEnd us n') k k) (hl : ts.length < (withEnd us n').length) {p p' : Nat} :
    3 * (withEnd ts n).length + 2 ≤ p → 3 * (withEnd us n').length + 2 ≤ p' →
    ∀ f1 f acc i ks j, i ≤ ts.length → (withEnd us n').length - i < f → upToF (withEnd ts n) [] (declR (withEnd ts n) (ps (withEnd ts n) (p + 1))) f1 acc i = .ok ks j →
    ∃ f', (withEnd us n').length - ts.length < f' ∧ upToF (withEnd us n') [] (declR (withEnd us n') (ps (withEnd us n') (p' + 1))) f acc i = upToF (withEnd us n') [] (declR (withEnd us n') (ps (withEnd us n') (p' + 1))) f' ks ts.length := by
  intro hp hp' f1
  have L1 := withEnd_len ts n
  induction f1 with
  | zero => intro f acc i ks j _ _ h; cases h
  | succ f1 ih =>
    intro f acc i ks j hi hf h
    unfold upToF at h
    by_cases hm : isM (withEnd ts n) i [] = true
    · rw [if_pos hm] at h
      injection h with h1 _
      have e : i = ts.length := by
        rcases Nat.lt_or_ge i ts.length with h2 | h2
        · rw [hne i h2] at hm; cases hm
        · omega
      subst e h1
      exact ⟨f, hf, rfl⟩
    · rw [if_neg hm] at h
      have hi2 : i < ts.length := by
        rcases Nat.lt_or_ge i ts.length with h2 | h2
        · exact h2
        · exfalso; apply hm
          have e : i = ts.length := by omega
          rw [e]; simp [isM, kindA, textA, withEnd_last]
      cases hd : declR (withEnd ts n) (ps (withEnd ts n) (p + 1)) i with
      | bad k => rw [hd] at h; cases h
      | ok t k =>
        rw [hd] at h
        have h' : upToF (withEnd ts n) [] (declR (withEnd ts n) (ps (withEnd ts n) (p + 1))) f1 (acc ++ [t]) k = .ok ks j := h
        have E := ended ts n
        have E' := ended us n'
        have g : i < k := by have := declR_s (withEnd ts n) (ps_s (withEnd ts n) (p + 1)) i; rw [hd] at this; exact this
        have b : k < (withEnd ts n).length := by have := declR_b E (ps_b E (p + 1)) (i := i) (by omega); rw [hd] at this; exact this
        have c := declR_cl E E' (n := p) (n' := p') (i := i) ⟨rfl, by omega, by omega, by omega, by omega⟩ t k hd (fun m _ h2 => hag m (by omega))
        have hm' : isM (withEnd us n') i [] = true → False := by rw [(hag i hi2).me]; exact hm
        obtain ⟨f', rfl⟩ : ∃ f', f = f' + 1 := ⟨f - 1, by omega⟩
        obtain ⟨f2, h1, h2⟩ := ih f' (acc ++ [t]) k ks j (by omega) (by omega) h'
        refine ⟨f2, h1, ?_⟩
        rw [← h2]
        conv => lhs; unfold upToF
        rw [if_neg hm', c]; rfl
theorem treeR_ok {l : List Tk} {t : Tr} {j : Nat} (h : treeR l = .ok t j) : ∃ ks, t = .mk 1 [] 0 ks ∧ upToF l [] (declR l (ps l (3 * l.length + 3))) (l.length + 1) [] 0 = .ok ks j := by
  unfold treeR progR upToR at h
  cases hu : upToF l [] (declR l (ps l (3 * l.length + 3))) (l.length + 1) [] 0 with
  | bad k => rw [hu] at h; cases h
  | ok ks k =>
    rw [hu] at h
    injection h with h1 h2
    exact ⟨ks, h1.symm, by rw [h2]⟩
/-- Two programs' tokens, one behind the other, are the declarations of both. -/
theorem treeR_join {ts us vs : List Tk} {n1 n2 n : Nat} (hne : ∀ i, i < ts.length → isM (withEnd ts n1) i [] = false) (hl : vs.length = us.length) (hv : ∀ (k : Nat) a b, us[k]? = some a → vs[k]? = some b → b.1 = a.1 ∧ b.2.1 = a.2.1 ∧ b.2.2.1 = a.2.2.1)
    {t1 t2 : Tr} {j1 j2 : Nat} (h1 : treeR (withEnd ts n1) = .ok t1 j1) (h2 : treeR (withEnd us n2) = .ok t2 j2) : ∃ j, treeR (withEnd (ts ++ vs) n) = .ok (.mk 1 [] 0 (t1.kids ++ t2.kids)) j := by
  obtain ⟨ks1, rfl, e1⟩ := treeR_ok h1
  obtain ⟨ks2, rfl, e2⟩ := treeR_ok h2
  have L1 := withEnd_len ts n1
  have L2 := withEnd_len us n2
  have L := withEnd_len (ts ++ vs) n
  rw [List.length_append] at L
  have E2 := ended us n2
  have E := ended (ts ++ vs) n
  have hag : ∀ k, k < ts.length → TkE (withEnd ts n1) (withEnd (ts ++ vs) n) k k := fun k hk => by
    have e : tkA (withEnd (ts ++ vs) n) k = tkA (withEnd ts n1) k := by
      rw [withEnd_at ts n1 hk, withEnd_at (ts ++ vs) n (by simp; omega)]; simp [List.getElem_append_left hk]
    exact ⟨by simp only [kindA, e], by simp only [textA, e], by simp only [numA, e]⟩
  have hag2 : ∀ k, k < (withEnd us n2).length → TkE (withEnd us n2) (withEnd (ts ++ vs) n) k (k + ts.length) := fun k hk => by
    rcases Nat.lt_or_ge k us.length with h | h
    · have ea : us[k]? = some us[k] := List.getElem?_eq_getElem h
      have eb : vs[k]? = some (vs[k]'(by omega)) := List.getElem?_eq_getElem (by omega)
      obtain ⟨q1, q2, q3⟩ := hv k _ _ ea eb
      have e : tkA (withEnd (ts ++ vs) n) (k + ts.length) = vs[k]'(by omega) := by
        rw [withEnd_at (ts ++ vs) n (by simp; omega)]; simp
      have e' : tkA (withEnd us n2) k = us[k] := withEnd_at us n2 h
      exact ⟨by simp only [kindA, e, e', q1], by simp only [textA, e, e', q2], by simp only [numA, e, e', q3]⟩
    · have ek : k = us.length := by omega
      subst ek
      have e : tkA (withEnd (ts ++ vs) n) (us.length + ts.length) = (4, [], 0, n) := by
        have := withEnd_last (ts ++ vs) n
        rw [List.length_append] at this
        rw [show us.length + ts.length = ts.length + vs.length by omega]; exact this
      exact ⟨by simp only [kindA, e, withEnd_last], by simp only [textA, e, withEnd_last], by simp only [numA, e, withEnd_last]⟩
  obtain ⟨f', hf', ef⟩ := upToF_first (us := ts ++ vs) (n' := n) (p := 3 * (withEnd ts n1).length + 2) (p' := 3 * (withEnd (ts ++ vs) n).length + 2) hne hag (by omega) (Nat.le_refl _) (Nat.le_refl _) ((withEnd ts n1).length + 1) ((withEnd (ts ++ vs) n).length + 1) [] 0 ks1 j1 (Nat.zero_le _) (by omega) e1
  have hb : j2 < (withEnd us n2).length := by
    have := upToR_b (l := withEnd us n2) (item := declR (withEnd us n2) (ps (withEnd us n2) (3 * (withEnd us n2).length + 3))) (fun _ hk => declR_b E2 (ps_b E2 _) hk) [] (i := 0) (by omega)
    unfold upToR at this
    rw [e2] at this; exact this
  have e3 : upToF (withEnd us n2) [] (declR (withEnd us n2) (ps (withEnd us n2) (3 * (withEnd us n2).length + 3))) ((withEnd us n2).length + 1) ks1 0 = .ok (ks1 ++ ks2) j2 := by
    have := upToF_pre (l := withEnd us n2) (m := []) (it := declR (withEnd us n2) (ps (withEnd us n2) (3 * (withEnd us n2).length + 3))) ks1 ((withEnd us n2).length + 1) [] 0
    rw [List.append_nil, e2] at this; exact this
  have C := cxs E2 E ts.length (3 * (withEnd us n2).length + 3) (3 * (withEnd (ts ++ vs) n).length + 3)
  have e4 := C.itDecl.upToF_l [] ((withEnd us n2).length + 1) f' ks1 0 ts.length ⟨by omega, by omega, by omega, by omega, by omega⟩ (by omega) hf'
  rw [e3] at e4
  have e5 := e4 fun k _ hk => hag2 k (by have hk' : k ≤ j2 := hk; omega)
  have e6 : upToF (withEnd (ts ++ vs) n) [] (declR (withEnd (ts ++ vs) n) (ps (withEnd (ts ++ vs) n) (3 * (withEnd (ts ++ vs) n).length + 3))) ((withEnd (ts ++ vs) n).length + 1) [] 0 = .ok (ks1 ++ ks2) (j2 + ts.length) := ef.trans e5
  refine ⟨j2 + ts.length, ?_⟩
  unfold treeR progR upToR
  rw [e6]; rfl
end Go.Proofs.YtnkphlkjhgngkaaGreatDoor
