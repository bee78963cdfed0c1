/- Two operators and three names: what the texts are read as, reckoned. -/
import Derived.Test.YtnkphlkjhgngkaaGreatDoorLawAJo
namespace Go.Proofs.YtnkphlkjhgngkaaGreatDoor

def opsL : List (List UInt8) := [[124, 124], [38, 38], [61, 61], [33, 61], [60], [60, 61], [62], [62, 61], [43], [45], [42], [47], [37]]
def textN (p q : List UInt8) : List UInt8 := [102, 117, 110, 99, 32, 102, 40, 41, 32, 123, 32, 114, 101, 116, 117, 114, 110, 32] ++ ([97, 32] ++ p ++ [32, 98, 32] ++ q ++ [32, 99]) ++ [59, 32, 125]
def textM (p q : List UInt8) : List UInt8 := [102, 117, 110, 99, 32, 102, 40, 41, 32, 123, 32, 114, 101, 116, 117, 114, 110, 32, 40, 97, 32] ++ p ++ [32, 98, 41, 32] ++ q ++ [32, 99, 59, 32, 125]
def textR (p q : List UInt8) : List UInt8 := [102, 117, 110, 99, 32, 102, 40, 41, 32, 123, 32, 114, 101, 116, 117, 114, 110, 32, 97, 32] ++ p ++ [32, 40, 98, 32] ++ q ++ [32, 99, 41, 59, 32, 125]
/-- The tree of a text, for a look. -/
def progE (e : Tr) : Tr := .mk 1 [] 0 [.mk 4 [102] 0 [.mk 7 [] 0 [], .mk 20 [] 0 [.mk 27 [] 0 [e]]]]
def nameE (s : List UInt8) : Tr := .mk 44 s 0 []
def binE (p : List UInt8) (a b : Tr) : Tr := .mk 53 p 0 [a, b]
def treeL (p q : List UInt8) : Tr := progE (binE q (binE p (nameE [97]) (nameE [98])) (nameE [99]))
def treeR' (p q : List UInt8) : Tr := progE (binE p (nameE [97]) (binE q (nameE [98]) (nameE [99])))
mutual
def eqT : Tr → Tr → Bool
  | .mk k s n ks, .mk k' s' n' ks' => k == k' && (s == s' && (n == n' && eqL ks ks'))
def eqL : List Tr → List Tr → Bool
  | [], [] => true
  | a :: x, b :: y => eqT a b && eqL x y
  | _, _ => false
end
mutual
theorem eqT_eq : ∀ a b, eqT a b = true → a = b
  | .mk k s n ks, .mk k' s' n' ks', h => by
    simp only [eqT, Bool.and_eq_true, beq_iff_eq] at h
    obtain ⟨rfl, rfl, rfl, h⟩ := h
    rw [eqL_eq ks ks' h]
theorem eqL_eq : ∀ a b : List Tr, eqL a b = true → a = b
  | [], [], _ => rfl
  | a :: x, b :: y, h => by
    simp only [eqL, Bool.and_eq_true] at h
    rw [eqT_eq a b h.1, eqL_eq x y h.2]
  | [], _ :: _, h => by simp [eqL] at h
  | _ :: _, [], h => by simp [eqL] at h
end
def isP (l : List UInt8) (t : Tr) : Bool := match parseP l with
  | (some u, 0, er) => er == 0 && eqT u t
  | _ => false
theorem isP_eq {l : List UInt8} {t : Tr} (h : isP l t = true) : parseP l = (some t, 0, 0) := by
  unfold isP at h
  split at h
  · rename_i u er e
    simp only [Bool.and_eq_true, beq_iff_eq] at h
    rw [e, h.1, eqT_eq u t h.2]
  · cases h
/-- What is reckoned at two operators. -/
def lev (p q : List UInt8) : Bool := isP (textM p q) (treeL p q) && (if rankL p < rankL q then isP (textN p q) (treeR' p q) && isP (textR p q) (treeR' p q) else isP (textN p q) (treeL p q))
set_option maxRecDepth 100000 in
theorem levs : (opsL.all fun p => opsL.all fun q => lev p q) = true := by decide +kernel
end Go.Proofs.YtnkphlkjhgngkaaGreatDoor
