/- doms: what every way goes through last. -/
import Derived.Test.YtaejhppfcmeopaaLxJ
import Derived.Test.YtaejhppfcmeopaaLxI
import Derived.Test.YtaejhppfcmeopaaLxF
import Derived.Test.YtaejhppfcmeopaaLxC
import Derived.Test.YtaejhppfcmeopaaLvH
namespace Go.Proofs.Ytaejhppfcmeopaa
open Go.RowKit
section
variable {bs : List Blk} {K : Nat}
theorem go_bit (S : Snd bs K) (x y : Nat) : (suc bs x).testBit y = true ↔ y ∈ goN bs x := by
  rw [suc_bit S]
  constructor
  · rintro ⟨b, hb, hy⟩
    rw [goN_of hb, List.mem_map]
    exact ⟨_, hy, by simp⟩
  · intro hy
    cases h : bs[x]? with
    | none => unfold goN at hy; rw [h] at hy; cases hy
    | some b =>
      rw [goN_of h, List.mem_map] at hy
      obtain ⟨z, hz, rfl⟩ := hy
      obtain ⟨y, rfl, _⟩ := S.n x b h z hz
      exact ⟨b, rfl, by simpa using hz⟩
theorem go_rpo (S : Snd bs K) (h0 : bs ≠ []) : Rpo (goN bs) (ordP bs) := by
  unfold ordP
  rw [if_neg h0]
  exact rpo (fun x y hy => by have := goN_lt S x y hy; have := S.l; omega)
theorem cm_lt (S : Snd bs K) (h0 : bs ≠ []) {x : Nat} (h : Cm (goN bs) x) : x < bs.length := by
  cases h with
  | here => exact List.length_pos_iff.mpr h0
  | on _ hy => exact goN_lt S _ _ hy
theorem ord_lt (S : Snd bs K) (h0 : bs ≠ []) {x : Nat} (h : x ∈ ordP bs) : x < bs.length := cm_lt S h0 (((go_rpo S h0).m x).mp h)
theorem ord_len (S : Snd bs K) (h0 : bs ≠ []) : (ordP bs).length ≤ 512 := by
  unfold ordP
  rw [if_neg h0, List.length_reverse]
  have h := (vsF_keeps (E := goN bs) (fun x y hy => by have := goN_lt S x y hy; have := S.l; omega) 600 0 (0, []) (by omega) sm_zero).2.2
  have := un_max 0
  simp only [List.length_nil] at h
  unfold dnP
  omega
theorem sn_ok (S : Snd bs K) : ∀ d ∈ ordP bs, ∀ b ∈ ordP bs, ((arP (suc bs) d).testBit b = true ↔ b = d ∨ Av (goN bs) d b) := fun d _ b _ => arP_bit (fun t => suc_sm t) (go_bit S) d b
/-- Of each block the last that every way goes through; -1: none. -/
def dmP (bs : List Blk) : List Int := (List.range bs.length).map fun b => dmV (ordP bs) (arP (suc bs)) b
theorem dmP_len (bs : List Blk) : (dmP bs).length = bs.length := by simp [dmP]
end
/-- The list while it is being made. -/
def vlF (o : List Nat) (sn : Nat → Nat) (pre : List Nat) (b : Nat) : Int := if b ∈ o then pre.foldl (fun r d => if (sn d).testBit b then r else (d : Int)) (-1) else -1
def dlF (n : Nat) (o : List Nat) (sn : Nat → Nat) (pre : List Nat) (d : Nat) (q : List Nat) : List Int := (List.range n).map fun b => if b ∈ q then vlF o sn (pre ++ [d]) b else vlF o sn pre b
section
variable {n : Nat} {o : List Nat} {sn : Nat → Nat} {pre q : List Nat} {d x : Nat}
theorem dlF_len : (dlF n o sn pre d q).length = n := by simp [dlF]
theorem dlF_get {b : Nat} (h : b < n) : (dlF n o sn pre d q)[b]? = some (if b ∈ q then vlF o sn (pre ++ [d]) b else vlF o sn pre b) := by simp [dlF, h]
theorem vlF_snoc (b : Nat) : vlF o sn (pre ++ [d]) b = if b ∈ o then (if (sn d).testBit b then vlF o sn pre b else (d : Int)) else -1 := by
  unfold vlF
  by_cases hb : b ∈ o
  · rw [if_pos hb, if_pos hb, if_pos hb, List.foldl_append]; rfl
  · rw [if_neg hb, if_neg hb]
theorem dlF_same (ho : x ∈ o) (h : (sn d).testBit x = true) : dlF n o sn pre d (q ++ [x]) = dlF n o sn pre d q := by
  unfold dlF
  refine List.map_congr_left fun b _ => ?_
  by_cases hq : b ∈ q
  · rw [if_pos (List.mem_append.mpr (.inl hq)), if_pos hq]
  · rw [if_neg hq]
    by_cases e : b = x
    · subst e
      rw [if_pos (by simp), vlF_snoc, if_pos ho, if_pos h]
    · rw [if_neg (by simp [hq, e])]
theorem dlF_set (hx : x < n) (ho : x ∈ o) (h : (sn d).testBit x = false) : (dlF n o sn pre d q).set x (d : Int) = dlF n o sn pre d (q ++ [x]) := by
  apply List.ext_getElem?
  intro b
  by_cases hb : b < n
  · rw [dlF_get hb]
    by_cases e : x = b
    · subst e
      rw [List.getElem?_set_self (by rw [dlF_len]; exact hx), if_pos (by simp), vlF_snoc, if_pos ho, if_neg (by rw [h]; decide)]
    · rw [List.getElem?_set_ne e, dlF_get hb]
      by_cases hq : b ∈ q
      · rw [if_pos hq, if_pos (by simp [hq])]
      · rw [if_neg hq, if_neg (by simp [hq, Ne.symm e])]
  · rw [List.getElem?_eq_none (by rw [List.length_set, dlF_len]; omega), List.getElem?_eq_none (by rw [dlF_len]; omega)]
theorem dlF_done : dlF n o sn pre d o = dlF n o sn (pre ++ [d]) x [] := by
  unfold dlF
  refine List.map_congr_left fun b _ => ?_
  rw [if_neg (List.not_mem_nil)]
  by_cases hb : b ∈ o
  · rw [if_pos hb]
  · rw [if_neg hb, vlF_snoc, if_neg hb]; unfold vlF; rw [if_neg hb]
theorem dlF_start (n : Nat) (o : List Nat) (sn : Nat → Nat) : dlF n o sn [] 0 [] = List.replicate n (-1) := by
  apply List.ext_getElem
  · simp [dlF]
  · intro i h1 h2
    simp [dlF, vlF]
end
theorem dlF_end (bs : List Blk) (x : Nat) : dlF bs.length (ordP bs) (arP (suc bs)) (ordP bs) x [] = dmP bs := by
  unfold dlF dmP
  refine List.map_congr_left fun b _ => ?_
  rw [if_neg (List.not_mem_nil)]
  rfl
end Go.Proofs.Ytaejhppfcmeopaa
