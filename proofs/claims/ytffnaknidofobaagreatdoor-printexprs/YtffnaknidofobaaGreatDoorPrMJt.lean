/- The printer's walks together: what is sound is written token by token. -/
import Derived.Test.YtffnaknidofobaaGreatDoorPrLJt
import Derived.Shelf.LaysM
import Derived.Shelf.Strconv.Itoa3
import Derived.Test.YtffnaknidofobaaGreatDoorProg
import Derived.Test.YtffnaknidofobaaGreatDoorQuoteJt
import Derived.Lib.ItoaLen
namespace Go.Proofs.YtffnaknidofobaaGreatDoor
open Go.RowKit
theorem nameP_len {l : List UInt8} (h : nameP l = true) : l.length ≤ 1000000:=by
 unfold nameP at h
 split at h
 · cases h
 · omega
theorem named_len {t : Tr} (h : namedT t = true) : t.text.length ≤ 1000000:=by
 simp only [namedT,Bool.and_eq_true] at h; exact nameP_len h.2
theorem prefix_len {l : List UInt8} (h : prefixL l = true) : l.length ≤ 1000000:=by
 have h' : (l == [45] || l == [33] || l == [38] || l == [42]) = true:=h
 simp only [Bool.or_eq_true,beq_iff_eq] at h'
 rcases h' with ((rfl | rfl) | rfl) | rfl <;> decide
theorem row1 {p : Tr → Bool} {ks : List Tr} (h : rowB [p] ks = true) : ∃ a,ks = [a] ∧ p a = true:=by
 match ks,rowB_length h with
 | [a],_ => simp only [rowB,Bool.and_true] at h; exact ⟨a,rfl,h⟩
theorem row2 {p q : Tr → Bool} {ks : List Tr} (h : rowB [p,q] ks = true) : ∃ a b,ks = [a,b] ∧ p a = true ∧ q b = true:=by
 match ks,rowB_length h with
 | [a,b],_ => simp only [rowB,Bool.and_true,Bool.and_eq_true] at h; exact ⟨a,b,rfl,h⟩
theorem row3 {p q r : Tr → Bool} {ks : List Tr} (h : rowB [p,q,r] ks = true) : ∃ a b c,ks = [a,b,c] ∧ p a = true ∧ q b = true ∧ r c = true:=by
 match ks,rowB_length h with
 | [a,b,c],_ => simp only [rowB,Bool.and_true,Bool.and_eq_true] at h; exact ⟨a,b,c,rfl,h⟩
theorem parted_at {ts : List Tr} {n : Int} {p q : Tr → Bool} (h : partedB ts n p q = true) : ∃ k : Nat,n = k ∧ k ≤ ts.length ∧ (∀ a ∈ ts.take k,p a = true) ∧ ∀ a ∈ ts.drop k,q a = true:=by
 simp only [partedB,Bool.and_eq_true,decide_eq_true_eq,List.all_eq_true] at h
 obtain ⟨h0,h1,h2,h3⟩:=h
 exact ⟨n.toNat,by omega,by omega,h2,h3⟩
theorem all_at {ts : List Tr} {p : Tr → Bool} (h : ts.all p = true) : ∀ a ∈ ts,p a = true:=List.all_eq_true.1 h
theorem kid_0 {t a : Tr} {r : List Tr} (h : t.kids = a :: r) : t.kids[0]? = some a ∧ kidT t 0 = a:=by simp [kidT,h]
theorem kid_1 {t a d : Tr} {r : List Tr} (h : t.kids = a :: d :: r) : t.kids[1]? = some d ∧ kidT t 1 = d:=by simp [kidT,h]
theorem kid_2 {t a d x : Tr} {r : List Tr} (h : t.kids = a :: d :: x :: r) : t.kids[2]? = some x ∧ kidT t 2 = x:=by simp [kidT,h]
/-- A tree is so deep at most; its lists and texts are not too long, its numbers are numbers. -/
def FitN : Nat → Tr → Prop
  | 0,_ => False
  | n + 1,t => t.kids.length ≤ 20000 ∧ (t.text.length ≤ maxLen ∧ t.num ≤ 9223372036854775807) ∧ ∀ k ∈ t.kids,FitN n k
structure GoodP (q : List UInt8 → Wd) (n : Nat) : Prop where
  typ : ∀ t,FitN n t → snd n .typ t = true → Wr 47 t (tks q n .typ t)
  par : ∀ t,FitN n t → snd n .par t = true → Wr 66 t (tks q n .par t)
  sig : ∀ t,FitN n t → snd n .sig t = true → Wr 48 t (tks q n .sig t)
  blk : ∀ t,FitN n t → snd n .blk t = true → Wr 49 t (tks q n .blk t)
  ifS : ∀ t,FitN n t → snd n .ifS t = true → Wr 117 t (tks q n .ifS t)
  els : ∀ t,FitN n t → snd n .els t = true → Wr 79 t (tks q n .els t)
  stm : ∀ t,FitN n t → snd n .stm t = true → Wr 79 t (tks q n .stm t)
  exp : ∀ t,FitN n t → snd n .exp t = true → Wr 22 t (tks q n .exp t)
section
variable {q : List UInt8 → Wd} {n : Nat} {t : Tr}
theorem typ_s (I : GoodP q n) (hF : FitN (n + 1) t) (hs : typB (snd n) t = true) : Wr 47 t (typT (tks q n) t):=by
 obtain ⟨hF1,_,hF3⟩:=hF
 unfold typB at hs
 by_cases h10 : t.kind = 10
 · rw [if_pos (by simp [h10])] at hs; simp only [Bool.and_eq_true] at hs
   exact typ_w10 h10 (named_len hs.1) (by simp [typT,h10])
 rw [if_neg (by simpa using h10)] at hs
 by_cases h11 : t.kind = 11
 · rw [if_pos (by simp [h11])] at hs; simp only [Bool.and_eq_true] at hs
   obtain ⟨a,hk,ha⟩:=row1 hs.2
   exact typ_w11 h11 (kid_0 hk).1 (I.typ a (hF3 a (by simp [hk])) ha) (by simp [typT,h11,(kid_0 hk).2])
 by_cases h12 : t.kind = 12
 · rw [if_pos (by simp [h12])] at hs; simp only [Bool.and_eq_true] at hs
   obtain ⟨a,hk,ha⟩:=row1 hs.2
   exact typ_w12 h12 (kid_0 hk).1 (I.typ a (hF3 a (by simp [hk])) ha) (by simp [typT,h12,(kid_0 hk).2])
 rw [if_neg (by simp [h11,h12])] at hs
 by_cases h13 : t.kind = 13
 · rw [if_pos (by simp [h13])] at hs; simp only [Bool.and_eq_true] at hs
   obtain ⟨k,hk,hl,h1,h2⟩:=parted_at hs.2
   exact typ_w13 h13 hk hl hF1 (fun a ha => I.typ a (hF3 a (List.mem_of_mem_take ha)) (h1 a ha)) (fun a ha => I.typ a (hF3 a (List.mem_of_mem_drop ha)) (h2 a ha)) (by simp [typT,h13,funcT,hk])
 rw [if_neg (by simpa using h13)] at hs; cases hs
theorem par_s (I : GoodP q n) (hF : FitN (n + 1) t) (hs : parB (snd n) t = true) : Wr 66 t (parT (tks q n) t):=by
 obtain ⟨hF1,_,hF3⟩:=hF
 simp only [parB,Bool.and_eq_true] at hs
 obtain ⟨a,hk,ha⟩:=row1 hs.2.2
 exact parameter_w (kid_0 hk).1 (named_len hs.2.1) (I.typ a (hF3 a (by simp [hk])) ha) (by simp [parT,(kid_0 hk).2])
theorem sig_s (I : GoodP q n) (hF : FitN (n + 1) t) (hs : sigB (snd n) t = true) : Wr 48 t (sigT (tks q n) t):=by
 obtain ⟨hF1,_,hF3⟩:=hF
 simp only [sigB,Bool.and_eq_true] at hs
 obtain ⟨k,hk,hl,h1,h2⟩:=parted_at hs.2.2
 exact signature_w hk hl hF1 (fun a ha => I.par a (hF3 a (List.mem_of_mem_take ha)) (h1 a ha)) (fun a ha => I.typ a (hF3 a (List.mem_of_mem_drop ha)) (h2 a ha)) (by simp [sigT,funcT,hk])
theorem blk_s (I : GoodP q n) (hF : FitN (n + 1) t) (hs : blkB (snd n) t = true) : Wr 49 t (blkT (tks q n) t):=by
 obtain ⟨hF1,_,hF3⟩:=hF
 simp only [blkB,Bool.and_eq_true] at hs
 exact block_w hF1 (fun a ha => I.stm a (hF3 a ha) (all_at hs.2.2 a ha)) rfl
theorem if_s (I : GoodP q n) (hF : FitN (n + 1) t) (hs : ifB (snd n) t = true) : Wr 117 t (ifT (tks q n) t):=by
 obtain ⟨hF1,_,hF3⟩:=hF
 simp only [ifB,Bool.and_eq_true,Bool.or_eq_true] at hs
 rcases hs.2.2 with h | h
 · obtain ⟨a,d,hk,ha,hd⟩:=row2 h
   exact if_w2 (by simp [hk]) (kid_0 hk).1 (kid_1 hk).1 (I.exp a (hF3 a (by simp [hk])) ha) (I.blk d (hF3 d (by simp [hk])) hd) (by simp [ifT,(kid_0 hk).2,(kid_1 hk).2,hk])
 · obtain ⟨a,d,x,hk,ha,hd,hx⟩:=row3 h
   exact if_w3 (by simp [hk]) (kid_0 hk).1 (kid_1 hk).1 (kid_2 hk).1 (I.exp a (hF3 a (by simp [hk])) ha) (I.blk d (hF3 d (by simp [hk])) hd) (I.els x (hF3 x (by simp [hk])) hx) (by simp [ifT,(kid_0 hk).2,(kid_1 hk).2,(kid_2 hk).2,hk])
theorem els_s (I : GoodP q n) (hF : FitN (n + 1) t) (hs : elsB (snd n) t = true) : Wr 79 t (elsT (tks q n) t):=by
 simp only [elsB,Bool.or_eq_true] at hs
 rcases hs with h | h
 · have hk : t.kind = 20:=by simp only [blkB,Bool.and_eq_true,beq_iff_eq] at h; exact h.1
   exact statement_w20 hk (blk_s I hF h) (by simp [elsT,hk])
 · have hk : t.kind = 25:=by simp only [ifB,Bool.and_eq_true,beq_iff_eq] at h; exact h.1
   exact statement_w25 hk (if_s I hF h) (by simp [elsT,hk])
theorem asg_s (I : GoodP q n) (hF : FitN (n + 1) t) {p : Tr → Bool} (hs : asgB (snd n) p t = true) (mark : Wd) (hm : mark.length ≤ 1000000) : WrM t mark (asgT (tks q n) mark t):=by
 obtain ⟨hF1,_,hF3⟩:=hF
 simp only [asgB,Bool.and_eq_true,decide_eq_true_eq] at hs
 obtain ⟨_,h0,h1,_,h2⟩:=hs
 have hl : 0 < t.kids.length:=by omega
 exact assigned_w (k:=t.num.toNat) hm (kidT_get hl) (by omega) (by omega) hF1 (fun a ha => I.exp a (hF3 a ha) (all_at h2 a ha)) rfl
theorem stm_s (I : GoodP q n) (hF : FitN (n + 1) t) (hs : stmB (snd n) t = true) : Wr 79 t (stmT (tks q n) t):=by
 have hF0:=hF
 obtain ⟨hF1,_,hF3⟩:=hF
 unfold stmB at hs
 by_cases h20 : t.kind = 20
 · rw [if_pos (by simp [h20])] at hs
   exact statement_w20 h20 (blk_s I hF0 hs) (by simp [stmT,h20])
 rw [if_neg (by simpa using h20)] at hs
 by_cases h25 : t.kind = 25
 · rw [if_pos (by simp [h25])] at hs
   exact statement_w25 h25 (if_s I hF0 hs) (by simp [stmT,h25])
 rw [if_neg (by simpa using h25)] at hs
 by_cases h21 : t.kind = 21
 · rw [if_pos (by simp [h21])] at hs; simp only [Bool.and_eq_true,Bool.or_eq_true] at hs
   rcases hs.2 with h | h
   · obtain ⟨a,hk,ha⟩:=row1 h
     exact statement_w21 h21 (simple_w21 h21 (variable_w1 (named_len hs.1) (by simp [hk]) (kid_0 hk).1 (I.typ a (hF3 a (by simp [hk])) ha) rfl) rfl) (by simp [stmT,simT,h21,varT,hk,(kid_0 hk).2])
   · obtain ⟨a,d,hk,ha,hd⟩:=row2 h
     exact statement_w21 h21 (simple_w21 h21 (variable_w2 (named_len hs.1) (by simp [hk]) (kid_0 hk).1 (kid_1 hk).1 (I.typ a (hF3 a (by simp [hk])) ha) (I.exp d (hF3 d (by simp [hk])) hd) rfl) rfl) (by simp [stmT,simT,h21,varT,hk,(kid_0 hk).2,(kid_1 hk).2])
 rw [if_neg (by simpa using h21)] at hs
 by_cases h22 : t.kind = 22
 · rw [if_pos (by simp [h22])] at hs
   exact statement_w22 h22 (simple_w22 h22 (asg_s I hF0 hs _ (by decide)) rfl) (by simp [stmT,simT,h22])
 rw [if_neg (by simpa using h22)] at hs
 by_cases h23 : t.kind = 23
 · rw [if_pos (by simp [h23])] at hs
   exact statement_w23 h23 (simple_w23 h23 (asg_s I hF0 hs _ (by decide)) rfl) (by simp [stmT,simT,h23])
 rw [if_neg (by simpa using h23)] at hs
 by_cases h24 : t.kind = 24
 · rw [if_pos (by simp [h24])] at hs; simp only [Bool.and_eq_true] at hs
   obtain ⟨a,hk,ha⟩:=row1 hs.2.2
   exact statement_w24 h24 (simple_w24 h24 (kid_0 hk).1 (I.exp a (hF3 a (by simp [hk])) ha) rfl) (by simp [stmT,simT,h24,(kid_0 hk).2])
 rw [if_neg (by simpa using h24)] at hs
 by_cases h26 : t.kind = 26
 · rw [if_pos (by simp [h26])] at hs; simp only [Bool.and_eq_true,Bool.or_eq_true] at hs
   rcases hs.2 with h | h
   · obtain ⟨a,hk,ha⟩:=row1 h
     exact statement_w26 h26 (for_w1 (pr:=tks q n .exp) (by simp [hk]) (kid_0 hk).1 (I.blk a (hF3 a (by simp [hk])) ha) rfl) (by simp [stmT,forT,h26,hk,(kid_0 hk).2])
   · obtain ⟨a,d,hk,ha,hd⟩:=row2 h
     exact statement_w26 h26 (for_w2 (pr:=tks q n .exp) (by simp [hk]) (kid_0 hk).1 (kid_1 hk).1 (I.exp a (hF3 a (by simp [hk])) ha) (I.blk d (hF3 d (by simp [hk])) hd) rfl) (by simp [stmT,forT,h26,hk,(kid_1 hk).2])
 rw [if_neg (by simpa using h26)] at hs
 by_cases h27 : t.kind = 27
 · rw [if_pos (by simp [h27])] at hs; simp only [Bool.and_eq_true] at hs
   exact statement_w27 h27 (simple_w27 h27 hF1 (fun a ha => I.exp a (hF3 a ha) (all_at hs.2 a ha)) rfl) (by simp [stmT,simT,h27])
 rw [if_neg (by simpa using h27)] at hs
 by_cases h28 : t.kind = 28
 · exact statement_w28 h28 (simple_w28 h28 rfl) (by simp [stmT,simT,h28])
 by_cases h29 : t.kind = 29
 · exact statement_w29 h29 (simple_w29 h29 rfl) (by simp [stmT,simT,h29])
 rw [if_neg (by simp [h28,h29])] at hs; cases hs
end
end Go.Proofs.YtffnaknidofobaaGreatDoor

namespace Go.Proofs.YtffnaknidofobaaGreatDoor
open Go.RowKit
theorem rank_len {l : List UInt8} (h : 0 < rankL l) : l.length ≤ 1000000:=by
 unfold rankL at h
 by_cases h1 : (l == [124,124]) = true
 · rw [beq_iff_eq] at h1; subst h1; decide
 by_cases h2 : (l == [38,38]) = true
 · rw [beq_iff_eq] at h2; subst h2; decide
 by_cases h3 : (l == [61,61] || l == [33,61] || l == [60] || l == [60,61] || l == [62] || l == [62,61]) = true
 · simp only [Bool.or_eq_true,beq_iff_eq] at h3
   rcases h3 with ((((rfl | rfl) | rfl) | rfl) | rfl) | rfl <;> decide
 by_cases h4 : (l == [43] || l == [45]) = true
 · simp only [Bool.or_eq_true,beq_iff_eq] at h4
   rcases h4 with rfl | rfl <;> decide
 by_cases h5 : (l == [42] || l == [47] || l == [37]) = true
 · simp only [Bool.or_eq_true,beq_iff_eq] at h5
   rcases h5 with (rfl | rfl) | rfl <;> decide
 rw [if_neg h1,if_neg h2,if_neg h3,if_neg h4,if_neg h5] at h
 cases h
/-- What leaves owe. -/
def LeafP (q : List UInt8 → Wd) : Prop:=∀ t : Tr,t.num ≤ 9223372036854775807 → (t.kind = 40 ∨ t.kind = 41 ∨ t.kind = 42 ∨ t.kind = 43 ∨ t.kind = 44) → leafB t = true → WrL t (leafT q t) ∧ (leafT q t).length ≤ 1000000
section
variable {q : List UInt8 → Wd} {n : Nat} {t : Tr}
theorem drop1 {a : Tr} {r : List Tr} (h : t.kids = a :: r) : t.kids.drop 1 = r:=by rw [h]; rfl
theorem exp_s (Q0 : LeafP q) (I : GoodP q n) (hF : FitN (n + 1) t) (hs : expB (snd n) t = true) : Wr 22 t (expT q (tks q n) t):=by
 have hF0:=hF
 obtain ⟨hF1,_,hF3⟩:=hF
 have hd1 : (t.kids.drop 1).length ≤ 20000:=by simp; omega
 unfold expB at hs
 by_cases hl : (t.kind == 40 || t.kind == 41 || t.kind == 42 || t.kind == 43 || t.kind == 44) = true
 · rw [if_pos hl] at hs
   have hl':=hl
   simp only [Bool.or_eq_true,beq_iff_eq] at hl'
   have hT : expT q (tks q n) t = [leafT q t]:=by unfold expT; rw [if_pos hl]
   obtain ⟨hW,hx⟩:=Q0 t hF0.2.1.2 (by rcases hl' with (((h | h) | h) | h) | h <;> simp [h]) hs
   rcases hl' with (((h | h) | h) | h) | h
   · exact expression_w40 h hx hW hT
   · exact expression_w41 h hx hW hT
   · exact expression_w42 h hx hW hT
   · exact expression_w43 h hx hW hT
   · exact expression_w44 h hx hW hT
 rw [if_neg hl] at hs
 have hT : expT q (tks q n) t = if t.kind == 45 then [[40],t.text] ++ (listedT [123] [125] (tks q n .exp) t.kids ++ [[41]])
     else if t.kind == 46 then [[91],[93]] ++ (tks q n .typ (kidT t 0) ++ listedT [123] [125] (tks q n .exp) (t.kids.drop 1))
     else if t.kind == 47 then [[102,117,110,99]] ++ (tks q n .sig (kidT t 0) ++ tks q n .blk (kidT t 1))
     else if t.kind == 52 then [[40],t.text] ++ (tks q n .exp (kidT t 0) ++ [[41]])
     else if t.kind == 53 then [[40]] ++ (tks q n .exp (kidT t 0) ++ ([t.text] ++ (tks q n .exp (kidT t 1) ++ [[41]])))
     else tks q n .exp (kidT t 0) ++ behT (tks q n) t:=by unfold expT; rw [if_neg hl]
 rw [hT]
 clear hT hl
 by_cases h45 : t.kind = 45
 · rw [if_pos (by simp [h45])] at hs; simp only [Bool.and_eq_true] at hs
   exact expression_w45 h45 (named_len hs.1) (elements_w hF1 (fun a ha => I.exp a (hF3 a ha) (all_at hs.2 a ha)) rfl) (by simp [h45])
 rw [if_neg (by simpa using h45)] at hs
 by_cases h46 : t.kind = 46
 · rw [if_pos (by simp [h46])] at hs; simp only [Bool.and_eq_true] at hs
   obtain ⟨k,hk,hkl,h1,h2⟩:=parted_at hs.2
   obtain rfl : k = 1:=by omega
   obtain ⟨a,r,hks⟩ : ∃ a r,t.kids = a :: r:=by
    cases hh : t.kids with
    | nil => rw [hh] at hkl; cases hkl
    | cons a r => exact ⟨a,r,rfl⟩
   exact expression_w46 (kid_0 hks).1 h46 (I.typ a (hF3 a (by simp [hks])) (h1 a (by simp [hks]))) (elements_w hd1 (fun x hx => I.exp x (hF3 x (List.mem_of_mem_drop hx)) (h2 x hx)) rfl) (by simp [h46,(kid_0 hks).2])
 rw [if_neg (by simpa using h46)] at hs
 by_cases h47 : t.kind = 47
 · rw [if_pos (by simp [h47])] at hs; simp only [Bool.and_eq_true] at hs
   obtain ⟨a,d,hk,ha,hd⟩:=row2 hs.2
   exact expression_w47 (kid_0 hk).1 (kid_1 hk).1 h47 (by simp [hk]) (I.sig a (hF3 a (by simp [hk])) ha) (I.blk d (hF3 d (by simp [hk])) hd) (by simp [h47,(kid_0 hk).2,(kid_1 hk).2])
 rw [if_neg (by simpa using h47)] at hs
 by_cases h48 : t.kind = 48
 · rw [if_pos (by simp [h48])] at hs; simp only [Bool.and_eq_true] at hs
   obtain ⟨a,hk,ha⟩:=row1 hs.2
   exact expression_w48 (kid_0 hk).1 h48 (I.exp a (hF3 a (by simp [hk])) ha) (behind_w48 (kid_0 hk).1 h48 (by simp [hk]) (named_len hs.1) rfl) (by simp [h48,behT,(kid_0 hk).2])
 rw [if_neg (by simpa using h48)] at hs
 by_cases h49 : t.kind = 49
 · rw [if_pos (by simp [h49])] at hs; simp only [Bool.and_eq_true] at hs
   obtain ⟨a,d,hk,ha,hd⟩:=row2 hs.2
   exact expression_w49 (kid_0 hk).1 h49 (I.exp a (hF3 a (by simp [hk])) ha) (behind_w49 (kid_0 hk).1 h49 (by simp [hk]) hd1 (pr:=tks q n .exp) (fun x hx => by rw [drop1 hk] at hx; simp at hx; subst hx; exact I.exp _ (hF3 _ (by simp [hk])) hd) rfl) (by simp [h49,behT,(kid_0 hk).2])
 rw [if_neg (by simpa using h49)] at hs
 by_cases h50 : t.kind = 50
 · rw [if_pos (by simp [h50])] at hs; simp only [Bool.and_eq_true,beq_iff_eq] at hs
   obtain ⟨_,hln,hal⟩:=hs
   have hal':=all_at hal
   have hI : ∀ x ∈ t.kids,Wr 22 x (tks q n .exp x):=fun x hx => I.exp x (hF3 x hx) (hal' x hx)
   by_cases e0 : t.num = 0
   · rw [e0] at hln
     match hks : t.kids,hln with
     | [a],_ =>
      exact expression_w50 (kid_0 hks).1 h50 (hI a (by simp [hks])) (behind_w50_0 (kid_0 hks).1 h50 e0 (by simp [hks]) (by rw [drop1 hks]; exact cut_w0 (pr:=tks q n .exp) rfl) rfl) (by simp [h50,behT,(kid_0 hks).2,hks,e0])
   by_cases e1 : t.num = 1
   · rw [e1] at hln
     match hks : t.kids,hln with
     | [a,x],_ =>
      exact expression_w50 (kid_0 hks).1 h50 (hI a (by simp [hks])) (behind_w50_1 (kid_0 hks).1 h50 e1 (by simp [hks]) (by rw [drop1 hks]; exact cut_w1 (pr:=tks q n .exp) (hI x (by simp [hks])) rfl) rfl) (by simp [h50,behT,(kid_0 hks).2,hks,e1])
   by_cases e2 : t.num = 2
   · rw [e2] at hln
     match hks : t.kids,hln with
     | [a,x],_ =>
      exact expression_w50 (kid_0 hks).1 h50 (hI a (by simp [hks])) (behind_w50_2 (kid_0 hks).1 h50 e2 (by simp [hks]) (by rw [drop1 hks]; exact cut_w2 (pr:=tks q n .exp) (hI x (by simp [hks])) rfl) rfl) (by simp [h50,behT,(kid_0 hks).2,hks,e2])
   by_cases e3 : t.num = 3
   · rw [e3] at hln
     match hks : t.kids,hln with
     | [a,x,y],_ =>
      exact expression_w50 (kid_0 hks).1 h50 (hI a (by simp [hks])) (behind_w50_3 (kid_0 hks).1 h50 e3 (by simp [hks]) (by rw [drop1 hks]; exact cut_w3 (pr:=tks q n .exp) (hI x (by simp [hks])) (hI y (by simp [hks])) rfl) rfl) (by simp [h50,behT,(kid_0 hks).2,hks,e3])
   exfalso
   have : cutN t.num = -1:=by simp [cutN,e0,e1,e2,e3]
   omega
 rw [if_neg (by simpa using h50)] at hs
 by_cases h51 : t.kind = 51
 · rw [if_pos (by simp [h51])] at hs; simp only [Bool.and_eq_true,decide_eq_true_eq] at hs
   have hal':=all_at hs.2.2
   obtain ⟨a,r,hks⟩ : ∃ a r,t.kids = a :: r:=by
    cases hh : t.kids with
    | nil => rw [hh] at hs; simp at hs
    | cons a r => exact ⟨a,r,rfl⟩
   have hI : ∀ x ∈ t.kids,Wr 22 x (tks q n .exp x):=fun x hx => I.exp x (hF3 x hx) (hal' x hx)
   exact expression_w51 (kid_0 hks).1 h51 (hI a (by simp [hks])) (behind_w51 (kid_0 hks).1 h51 hd1 (fun x hx => hI x (List.mem_of_mem_drop hx)) rfl) (by simp [h51,behT,(kid_0 hks).2])
 rw [if_neg (by simpa using h51)] at hs
 by_cases h52 : t.kind = 52
 · rw [if_pos (by simp [h52])] at hs; simp only [Bool.and_eq_true] at hs
   obtain ⟨a,hk,ha⟩:=row1 hs.2.2
   exact expression_w52 (kid_0 hk).1 h52 (prefix_len hs.2.1) (I.exp a (hF3 a (by simp [hk])) ha) (by simp [h52,(kid_0 hk).2])
 rw [if_neg (by simpa using h52)] at hs
 by_cases h53 : t.kind = 53
 · rw [if_pos (by simp [h53])] at hs; simp only [Bool.and_eq_true,decide_eq_true_eq] at hs
   obtain ⟨a,d,hk,ha,hd⟩:=row2 hs.2.2
   exact expression_w53 (kid_0 hk).1 (kid_1 hk).1 h53 (by simp [hk]) (rank_len hs.2.1) (I.exp a (hF3 a (by simp [hk])) ha) (I.exp d (hF3 d (by simp [hk])) hd) (by simp [h53,(kid_0 hk).2,(kid_1 hk).2])
 rw [if_neg (by simpa using h53)] at hs; cases hs
theorem goodP (Q0 : LeafP q) : ∀ n,GoodP q n
  | 0 => ⟨fun _ _ h => (by cases h),fun _ _ h => (by cases h),fun _ _ h => (by cases h),fun _ _ h => (by cases h),fun _ _ h => (by cases h),fun _ _ h => (by cases h),fun _ _ h => (by cases h),fun _ _ h => (by cases h)⟩
  | n + 1 => have I:=goodP Q0 n
    ⟨fun _ hF h => typ_s I hF h,fun _ hF h => par_s I hF h,fun _ hF h => sig_s I hF h,fun _ hF h => blk_s I hF h,fun _ hF h => if_s I hF h,fun _ hF h => els_s I hF h,fun _ hF h => stm_s I hF h,fun _ hF h => exp_s Q0 I hF h⟩
theorem dec_s (Q0 : LeafP q) (hF : FitN (n + 2) t) (hs : decB n t = true) : Wr 31 t (decT q n t):=by
 obtain ⟨hF1,_,hF3⟩:=hF
 have I:=goodP Q0 n
 have J:=goodP Q0 (n + 1)
 unfold decB at hs
 by_cases h2 : t.kind = 2
 · rw [if_pos (by simp [h2])] at hs; simp only [Bool.and_eq_true] at hs
   refine declaration_w2 h2 (named_len hs.1) hF1 (pr:=fldT (tks q n)) (fun a ha => ?_) (by simp [decT,h2])
   have hf:=all_at hs.2 a ha
   simp only [fldB,Bool.and_eq_true] at hf
   obtain ⟨x,hk,hx⟩:=row1 hf.2.2
   exact field_w (kid_0 hk).1 (named_len hf.2.1) (I.typ x ((hF3 a ha).2.2 x (by simp [hk])) hx) (by simp [fldT,(kid_0 hk).2])
 rw [if_neg (by simpa using h2)] at hs
 by_cases h3 : t.kind = 3
 · rw [if_pos (by simp [h3])] at hs; simp only [Bool.and_eq_true] at hs
   refine declaration_w3 h3 (named_len hs.1) hF1 (pr:=metT (tks q n)) (fun a ha => ?_) (by simp [decT,h3])
   have hf:=all_at hs.2 a ha
   simp only [metB,Bool.and_eq_true] at hf
   obtain ⟨x,hk,hx⟩:=row1 hf.2.2
   exact method_w (kid_0 hk).1 (named_len hf.2.1) (I.sig x ((hF3 a ha).2.2 x (by simp [hk])) hx) (by simp [metT,(kid_0 hk).2])
 rw [if_neg (by simpa using h3)] at hs
 by_cases h4 : t.kind = 4
 · rw [if_pos (by simp [h4])] at hs; simp only [Bool.and_eq_true] at hs
   obtain ⟨a,d,hk,ha,hd⟩:=row2 hs.2
   exact declaration_w4 (kid_0 hk).1 (kid_1 hk).1 h4 (by simp [hk]) (named_len hs.1) (J.sig a (hF3 a (by simp [hk])) ha) (J.blk d (hF3 d (by simp [hk])) hd) (by simp [decT,h4,(kid_0 hk).2,(kid_1 hk).2])
 rw [if_neg (by simpa using h4)] at hs
 by_cases h5 : t.kind = 5
 · rw [if_pos (by simp [h5])] at hs; simp only [Bool.and_eq_true] at hs
   obtain ⟨a,d,x,hk,ha,hd,hx⟩:=row3 hs.2
   have hp : parB (snd n) a = true:=by simp only [recB,Bool.and_eq_true] at ha; exact ha.1
   exact declaration_w5 (kid_0 hk).1 (kid_1 hk).1 (kid_2 hk).1 h5 (by simp [hk]) (named_len hs.1) (pr:=parT (tks q n)) (par_s I (hF3 a (by simp [hk])) hp) (J.sig d (hF3 d (by simp [hk])) hd) (J.blk x (hF3 x (by simp [hk])) hx) (by simp [decT,h5,hk,(kid_1 hk).2,(kid_2 hk).2])
 rw [if_neg (by simpa using h5)] at hs; cases hs
theorem prg_s (Q0 : LeafP q) (hF : FitN 100 t) (hs : prgB t = true) : Wr 16 t (prgT q t):=by
 obtain ⟨hF1,_,hF3⟩:=hF
 simp only [prgB,Bool.and_eq_true] at hs
 exact program_w hF1 (fun a ha => dec_s Q0 (hF3 a ha) (all_at hs.2.2 a ha)) rfl
end
end Go.Proofs.YtffnaknidofobaaGreatDoor

namespace Go.Proofs.YtffnaknidofobaaGreatDoor
open Go.Shelf
def Tryz.laysM171_ren : Go.Shelf.Ren:=⟨fun | 171 => 75 | 243 => 114 | 246 => 148 | 283 => 175 | 284 => 176 | 285 => 177 | 286 => 178 | 129 => 201 | 317 => 200 | 318 => 202 | 319 => 203 | 320 => 204 | 337 => 211 | 338 => 212 | n => n,fun | 3 => 3 | 9 => 9 | 2 => 2 | 4 => 4 | 171 => 145 | 0 => 0 | 53 => 111 | 37 => 37 | 5 => 5 | 173 => 148 | 212 => 159 | 51 => 160 | 20 => 20 | 213 => 161 | 46 => 134 | 232 => 173 | 233 => 174 | n => n,fun | 17 => 0 | 18 => 4 | 19 => 5 | n => n⟩
theorem Tryz.laysM171 : Go.Proofs.LaysM.n171 Tryz.prog Tryz.laysM171_ren:={
  mixed:=by kernel_rfl
  f129:=Tryz.func201.trans (congrArg some (by kernel_rfl))
  f171:=Tryz.func75.trans (congrArg some (by kernel_rfl))
  f243:=Tryz.func114.trans (congrArg some (by kernel_rfl))
  f246:=Tryz.func148.trans (congrArg some (by kernel_rfl))
  f283:=Tryz.func175.trans (congrArg some (by kernel_rfl))
  f284:=Tryz.func176.trans (congrArg some (by kernel_rfl))
  f285:=Tryz.func177.trans (congrArg some (by kernel_rfl))
  f286:=Tryz.func178.trans (congrArg some (by kernel_rfl))
  f317:=Tryz.func200.trans (congrArg some (by kernel_rfl))
  f318:=Tryz.func202.trans (congrArg some (by kernel_rfl))
  f319:=Tryz.func203.trans (congrArg some (by kernel_rfl))
  f320:=Tryz.func204.trans (congrArg some (by kernel_rfl))
  f337:=Tryz.func211.trans (congrArg some (by kernel_rfl))
  f338:=Tryz.func212.trans (congrArg some (by kernel_rfl))
  t0:=Tryz.underlying0
  a0:=Tryz.isAgg0
  z0:=Tryz.sizeOf0
  v0:=Tryz.zeroValue0
  t2:=Tryz.underlying2
  a2:=Tryz.isAgg2
  z2:=Tryz.sizeOf2
  v2:=Tryz.zeroValue2
  t3:=Tryz.underlying3
  a3:=Tryz.isAgg3
  z3:=Tryz.sizeOf3
  v3:=Tryz.zeroValue3
  t4:=Tryz.underlying4
  a4:=Tryz.isAgg4
  z4:=Tryz.sizeOf4
  v4:=Tryz.zeroValue4
  t5:=Tryz.underlying5
  a5:=Tryz.isAgg5
  z5:=Tryz.sizeOf5
  v5:=Tryz.zeroValue5
  t9:=Tryz.underlying9
  a9:=Tryz.isAgg9
  z9:=Tryz.sizeOf9
  v9:=Tryz.zeroValue9
  t20:=Tryz.underlying20
  a20:=Tryz.isAgg20
  z20:=Tryz.sizeOf20
  v20:=Tryz.zeroValue20
  t37:=Tryz.underlying37
  a37:=Tryz.isAgg37
  z37:=Tryz.sizeOf37
  v37:=Tryz.zeroValue37
  t46:=Tryz.underlying134
  a46:=Tryz.isAgg134
  z46:=Tryz.sizeOf134
  v46:=Tryz.zeroValue134
  t51:=Tryz.underlying160
  a51:=Tryz.isAgg160
  z51:=Tryz.sizeOf160
  v51:=Tryz.zeroValue160
  t53:=Tryz.underlying111
  a53:=Tryz.isAgg111
  z53:=Tryz.sizeOf111
  v53:=Tryz.zeroValue111
  t171:=Tryz.underlying145
  a171:=Tryz.isAgg145
  z171:=Tryz.sizeOf145
  v171:=Tryz.zeroValue145
  t173:=Tryz.underlying148
  a173:=Tryz.isAgg148
  z173:=Tryz.sizeOf148
  v173:=Tryz.zeroValue148
  t212:=Tryz.underlying159
  a212:=Tryz.isAgg159
  z212:=Tryz.sizeOf159
  v212:=Tryz.zeroValue159
  t213:=Tryz.underlying161
  a213:=Tryz.isAgg161
  z213:=Tryz.sizeOf161
  t232:=Tryz.underlying173
  a232:=Tryz.isAgg173
  z232:=Tryz.sizeOf173
  v232:=Tryz.zeroValue173
  t233:=Tryz.underlying174
  a233:=Tryz.isAgg174
  z233:=Tryz.sizeOf174
  v233:=Tryz.zeroValue174
  g17:=by kernel_rfl
  g18:=by kernel_rfl
  g19:=by kernel_rfl
  i0:=by kernel_rfl
  i2:=by kernel_rfl
  i3:=by kernel_rfl
  i4:=by kernel_rfl
  i5:=by kernel_rfl
  i9:=by kernel_rfl
  i20:=by kernel_rfl
  i37:=by kernel_rfl
  i46:=by kernel_rfl
  i51:=by kernel_rfl
  i53:=by kernel_rfl
  i171:=by kernel_rfl
  i173:=by kernel_rfl
  i212:=by kernel_rfl
  i232:=by kernel_rfl
  i233:=by kernel_rfl
  m17:=by kernel_rfl
  m18:=by kernel_rfl
  m19:=by kernel_rfl }
open Go.RowKit Go.Sort Go.Lib in
/-- strconv.Itoa: "Itoa is equivalent to FormatInt(int64(i), 10).": i's DECIMAL NUMERAL ('Lib.itoa': a '-' where i is negative, then the digits), FOR EVERY int. The world behind the call: the world before it, new blocks behind the heap (the library's 'var a [24]byte'), draws. (LAID: no walk: one application.) -/
theorem Tryz.strconv_Itoa (n : Int) (h0 : -9223372036854775808 ≤ n) (h1 : n ≤ 9223372036854775807) (w : World) (htab : Lib.TabIs Tryz.prog w "internal/strconv.uint64pow10" .u64 Lib.pow10Tab) :
    Calls Tryz.prog 75 #[.int .i64 n] w fun e w' => e = .returned (.string ⟨(Lib.itoa n).toArray⟩) ∧ ∃ k os,w' = grow (w.drewN k) os:=Any.strconv_Itoa Tryz.laysM171 n h0 h1 w htab
end Go.Proofs.YtffnaknidofobaaGreatDoor

namespace Go.Proofs.YtffnaknidofobaaGreatDoor
open Go.RowKit
theorem below_grow (w : World) (q : Nat) (os : Array Obj) : Below w.heap.size w (Go.Sort.grow (w.drewN q) os) :=
  ⟨rfl,rfl,rfl,by simp [Go.Sort.grow],fun i hi => by
   show ((w.drewN q).heap ++ os)[i]? = _
   rw [Array.getElem?_append_left (by show i < w.heap.size; omega)]
   rfl⟩
set_option maxRecDepth 20000 in
set_option maxHeartbeats 400000 in
theorem truth_w (n : Int) (w : World) : Calls Tryz.prog 77 #[.int .i64 n] w fun e w' => e = .returned (.string ⟨(if n == 1 then [116,114,117,101] else [102,97,108,115,101] : Wd).toArray⟩) ∧ w' = w:=by
 by_cases h : n = 1
 · subst h
   go_enter Tryz.func77,Tryz.ntmps77
   go_wp2
   go_ret
   exact ⟨rfl,rfl⟩
 · have hb : (n == 1) = false:=by simpa using h
   clear h
   go_enter Tryz.func77,Tryz.ntmps77
   go_wp2
   go_ret
   exact ⟨rfl,rfl⟩
set_option maxRecDepth 20000 in
set_option maxHeartbeats 400000 in
theorem leaf_w40 (tx : List UInt8) (nm : Int) (ks : List Tr) (h0 : -9223372036854775808 ≤ nm) (h1 : nm ≤ 9223372036854775807) : WrL (.mk 40 tx nm ks) (Lib.itoa nm):=fun B w sl hG hB hk => by
 obtain ⟨ao,c,rfl⟩ : ∃ ao c,sl = .slice ao ks.length c:=(Lst.of hk).slice
 have HI : Hid (∀ W,Below w.heap.size w W → Calls Tryz.prog 75 #[.int .i64 nm] W fun e w' => e = .returned (.string ⟨(Lib.itoa nm).toArray⟩) ∧ ∃ k os,w' = Go.Sort.grow (W.drewN k) os):=fun W hb => Tryz.strconv_Itoa nm h0 h1 W (hG.later (hb.mono hB)).tab
 have hb:=(Below.refl w.heap.size w).alloc (Nat.le_refl _) (.cells #[.int .i64 40,.string ⟨tx.toArray⟩,.int .i64 nm,.slice ao ks.length c] 24)
 clear hG hk
 go_enter Tryz.func45,Tryz.ntmps45
 go_wp2_with fail
 refine (HI.out _ hb).mono ?_
 rintro e w1 ⟨rfl,k,os,rfl⟩
 go_wp2
 go_ret
 exact ⟨rfl,hb.trans ((below_grow _ _ _).mono (by simp))⟩
set_option maxRecDepth 20000 in
set_option maxHeartbeats 400000 in
theorem leaf_w41 (tx : List UInt8) (nm : Int) (ks : List Tr) (h0 : tx.length ≤ 20000000) : WrL (.mk 41 tx nm ks) (quoteL tx):=fun B w sl hG hB hk => by
 obtain ⟨ao,c,rfl⟩ : ∃ ao c,sl = .slice ao ks.length c:=(Lst.of hk).slice
 have HI : Hid (∀ W,Calls Tryz.prog 76 #[.string ⟨tx.toArray⟩] W fun e w' => e = .returned (.string ⟨(quoteL tx).toArray⟩) ∧ Below W.heap.size W w'):=fun W => quote_any ⟨tx.toArray⟩ (by simpa [ByteArray.size] using h0) W
 have hb:=(Below.refl w.heap.size w).alloc (Nat.le_refl _) (.cells #[.int .i64 41,.string ⟨tx.toArray⟩,.int .i64 nm,.slice ao ks.length c] 24)
 clear hG hk
 go_enter Tryz.func45,Tryz.ntmps45
 go_wp2_with fail
 refine (HI.out _).mono ?_
 rintro e w1 ⟨rfl,hb1⟩
 go_wp2
 go_ret
 exact ⟨rfl,hb.trans (hb1.mono (by simp))⟩
set_option maxRecDepth 20000 in
set_option maxHeartbeats 400000 in
theorem leaf_w42 (tx : List UInt8) (nm : Int) (ks : List Tr) : WrL (.mk 42 tx nm ks) (if nm == 1 then [116,114,117,101] else [102,97,108,115,101]):=fun B w sl hG hB hk => by
 obtain ⟨ao,c,rfl⟩ : ∃ ao c,sl = .slice ao ks.length c:=(Lst.of hk).slice
 have HI : Hid (∀ W,_):=fun W => truth_w nm W
 have hb:=(Below.refl w.heap.size w).alloc (Nat.le_refl _) (.cells #[.int .i64 42,.string ⟨tx.toArray⟩,.int .i64 nm,.slice ao ks.length c] 24)
 clear hG hk
 generalize (if nm == 1 then [116,114,117,101] else [102,97,108,115,101] : Wd) = x at *
 go_enter Tryz.func45,Tryz.ntmps45
 go_wp2_with fail
 refine (HI.out _).mono ?_
 rintro e w1 ⟨rfl,hb1⟩
 subst hb1
 go_wp2
 go_ret
 exact ⟨rfl,hb⟩
set_option maxRecDepth 20000 in
set_option maxHeartbeats 400000 in
theorem leaf_w43 (tx : List UInt8) (nm : Int) (ks : List Tr) : WrL (.mk 43 tx nm ks) [110,105,108]:=fun B w sl hG hB hk => by
 obtain ⟨ao,c,rfl⟩ : ∃ ao c,sl = .slice ao ks.length c:=(Lst.of hk).slice
 have hb:=(Below.refl w.heap.size w).alloc (Nat.le_refl _) (.cells #[.int .i64 43,.string ⟨tx.toArray⟩,.int .i64 nm,.slice ao ks.length c] 24)
 clear hG hk
 go_enter Tryz.func45,Tryz.ntmps45
 go_wp2
 go_ret
 exact ⟨rfl,hb⟩
set_option maxRecDepth 20000 in
set_option maxHeartbeats 400000 in
theorem leaf_w44 (tx : List UInt8) (nm : Int) (ks : List Tr) : WrL (.mk 44 tx nm ks) tx:=fun B w sl hG hB hk => by
 obtain ⟨ao,c,rfl⟩ : ∃ ao c,sl = .slice ao ks.length c:=(Lst.of hk).slice
 have hb:=(Below.refl w.heap.size w).alloc (Nat.le_refl _) (.cells #[.int .i64 44,.string ⟨tx.toArray⟩,.int .i64 nm,.slice ao ks.length c] 24)
 clear hG hk
 go_enter Tryz.func45,Tryz.ntmps45
 go_wp2
 go_ret
 exact ⟨rfl,hb⟩
theorem quoteL_short (l : List UInt8) (h : l.length ≤ 1024) : (quoteL l).length ≤ 1000000:=by
 have h1:=quoteTo_len l l.length
 unfold quoteTo at h1
 rw [List.take_length] at h1
 unfold quoteL
 simp only [List.length_cons,List.length_append,List.length_nil] at h1 ⊢
 omega
theorem leafP : LeafP quoteL:=by
 rintro ⟨k,tx,nm,ks⟩ hn hk hs
 simp only [Tr.kind,Tr.num] at hk hn
 unfold leafB at hs
 rw [show (Tr.mk k tx nm ks).kids = ks from rfl,show (Tr.mk k tx nm ks).kind = k from rfl] at hs
 split at hs
 · cases hs
 rcases hk with rfl | rfl | rfl | rfl | rfl
 · have h0 : 0 ≤ nm:=of_decide_eq_true (Bool.and_eq_true_iff.1 hs).2
   exact ⟨leaf_w40 tx nm ks (by omega) hn,Nat.le_trans (Lib.itoa_length_le nm (by omega) hn) (by decide)⟩
 · have h0 : tx.length ≤ 1024:=of_decide_eq_true (Bool.and_eq_true_iff.1 hs).2
   exact ⟨leaf_w41 tx nm ks (by omega),quoteL_short tx h0⟩
 · exact ⟨leaf_w42 tx nm ks,by show (if nm == 1 then [116,114,117,101] else [102,97,108,115,101] : Wd).length ≤ _; split <;> decide⟩
 · exact ⟨leaf_w43 tx nm ks,by show ([110,105,108] : Wd).length ≤ _; decide⟩
 · simp at hs
   exact ⟨leaf_w44 tx nm ks,named_len hs⟩
end Go.Proofs.YtffnaknidofobaaGreatDoor
