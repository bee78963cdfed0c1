/- Blanks between tokens: the plain mathematics of ScanSpaced. -/
import Derived.Test.YtffnaknidofobaaGreatDoorPlacMJt
import Derived.Test.YtffnaknidofobaaGreatDoorSndIJt
import Derived.Test.YtffnaknidofobaaGreatDoorParYJt
import Derived.Test.YtffnaknidofobaaGreatDoorLawBJt
namespace Go.Proofs.YtffnaknidofobaaGreatDoor
open Go.RowKit
/-- From a place on the text is just these tokens, to its end. -/
def Run (l : List UInt8) : Nat → List TkA → Prop
  | a,[] => l.length ≤ a
  | a,u :: us => u.2.2.2 = a ∧ a < l.length ∧ ∃ e,tokL l a = some (u.1,u.2.1,u.2.2.1,e) ∧ Run l (skipTo l e) us
theorem run_of_scanF (l : List UInt8) : ∀ (f a : Nat) (acc ts : List TkA) (m : Nat),l.length - a < f → scanF l f a acc = (ts,m,0) → ∃ us,ts = acc ++ us ∧ Run l a us
  | 0,a,acc,ts,m,hf,h => by omega
  | f + 1,a,acc,ts,m,hf,h => by
   by_cases ha : a < l.length
   · by_cases hl : acc.length = 20000
     · rw [scanF_large (Nat.succ_pos _) ha hl] at h; cases h
     · cases ht : tokL l a with
       | none => rw [scanF_fault (Nat.succ_pos _) ha hl ht] at h; cases h
       | some x =>
        obtain ⟨kd,t,n,e⟩:=x
        rw [scanF_step ha hl ht] at h
        have he:=tokL_end ha ht
        have hs:=skipTo_ge l e
        obtain ⟨us,h1,h2⟩:=run_of_scanF l f _ _ ts m (by omega) h
        refine ⟨(kd,t,n,a) :: us,?_,rfl,ha,e,ht,h2⟩
        rw [h1,List.append_assoc]; rfl
   · rw [scanF_end (Nat.succ_pos _) ha] at h
     refine ⟨[],?_,by show l.length ≤ a; omega⟩
     rw [List.append_nil]
     injection h with h _
     exact h.symm
theorem scanF_of_run (l : List UInt8) : ∀ (us : List TkA) (f a : Nat) (acc : List TkA),l.length - a < f → acc.length + us.length ≤ 20000 → Run l a us → scanF l f a acc = (acc ++ us,0,0)
  | [],f,a,acc,hf,_,h => by
   have h' : l.length ≤ a:=h
   rw [scanF_end (by omega) (by omega),List.append_nil]
  | u :: us,f,a,acc,hf,hc,h => by
   obtain ⟨h1,ha,e,ht,h2⟩:=h
   obtain ⟨kd,t,n,a'⟩:=u
   dsimp only at h1 ht
   subst h1
   obtain ⟨f,rfl⟩ : ∃ g,f = g + 1:=⟨f - 1,by omega⟩
   have he:=tokL_end ha ht
   have hs:=skipTo_ge l e
   rw [List.length_cons] at hc
   rw [scanF_step ha (by omega) ht,scanF_of_run l us f _ _ (by omega) (by rw [List.length_append,List.length_singleton]; omega) h2,List.append_assoc]
   rfl
theorem run_of_scan {l : List UInt8} {ts : List TkA} {m : Nat} (hl : l.length ≤ 65536) (h : scanRes l = (ts,m,0)) : Run l (skipTo l 0) ts:=by
 unfold scanRes at h
 rw [if_neg (by omega)] at h
 obtain ⟨us,h1,h2⟩:=run_of_scanF l _ _ _ _ _ (by omega) h
 rw [List.nil_append] at h1
 rw [h1]; exact h2
theorem scan_of_run {l : List UInt8} {ts : List TkA} (hl : l.length ≤ 65536) (hn : ts.length ≤ 20000) (h : Run l (skipTo l 0) ts) : scanRes l = (ts,0,0):=by
 unfold scanRes
 rw [if_neg (by omega),scanF_of_run l ts _ _ _ (by omega) (by simpa using hn) h,List.nil_append]
/-- A place where no blank and no remark begins. -/
def Awk (y : List UInt8) : Prop:=skipN false y = 0
theorem awk_drop : ∀ (x : List UInt8) (b : Bool),Awk (x.drop (skipN b x))
  | [],b => by
   unfold Awk
   rw [List.drop_nil]
   rfl
  | c :: x,true => by
   by_cases hc : remarkP c = true
   · have h : skipN true (c :: x) = skipN true x + 1:=by show (if remarkP c = true then _ else _) = _; rw [if_pos hc]
     rw [h,List.drop_succ_cons]
     exact awk_drop x true
   · have h : skipN true (c :: x) = skipN false x + 1:=by show (if remarkP c = true then _ else _) = _; rw [if_neg hc]
     rw [h,List.drop_succ_cons]
     exact awk_drop x false
  | c :: x,false => by
   by_cases hc : blankP c = true
   · have h : skipN false (c :: x) = skipN false x + 1:=by show (if blankP c = true then _ else _) = _; rw [if_pos hc]
     rw [h,List.drop_succ_cons]
     exact awk_drop x false
   · by_cases h2 : (c == 47 && x.head? == some 47) = true
     · have h : skipN false (c :: x) = skipN true x + 1:=by show (if blankP c = true then _ else if (c == 47 && x.head? == some 47) = true then _ else _) = _; rw [if_neg hc,if_pos h2]
       rw [h,List.drop_succ_cons]
       exact awk_drop x true
     · have h : skipN false (c :: x) = 0:=by show (if blankP c = true then _ else if (c == 47 && x.head? == some 47) = true then _ else _) = _; rw [if_neg hc,if_neg h2]
       rw [h,List.drop_zero]
       exact h
theorem awk_skip (l : List UInt8) (k : Nat) : Awk (l.drop (skipTo l k)):=by
 unfold skipTo
 rw [← List.drop_drop]
 exact awk_drop _ _
theorem awk_cut {y r : List UInt8} {m : Nat} (hr : Ends r) (hm : 1 ≤ m) (hy : y ≠ []) (h : Awk y) : Awk (y.take m ++ r):=by
 match y,m,hy,hm with
 | c :: x,m + 1,_,_ =>
  rw [List.take_succ_cons,List.cons_append]
  by_cases hc : blankP c = true
  · have h' : (if blankP c = true then skipN false x + 1 else if (c == 47 && x.head? == some 47) = true then skipN true x + 1 else 0) = 0:=h
    rw [if_pos hc] at h'; omega
  · have h2 : ¬ (c == 47 && x.head? == some 47) = true:=by
     intro h2
     have h' : (if blankP c = true then skipN false x + 1 else if (c == 47 && x.head? == some 47) = true then skipN true x + 1 else 0) = 0:=h
     rw [if_neg hc,if_pos h2] at h'; omega
    have h3 : ¬ (c == 47 && (x.take m ++ r).head? == some 47) = true:=by
     intro h3
     rw [Bool.and_eq_true,beq_iff_eq,beq_iff_eq] at h3 h2
     have hrn : ¬ r.head? = some 47:=fun h => absurd (hr 47 h) (by decide)
     match x,m,h2,h3 with
     | [],m,_,h3 => rw [List.take_nil,List.nil_append] at h3; exact hrn h3.2
     | d :: x',0,_,h3 => rw [List.take_zero,List.nil_append] at h3; exact hrn h3.2
     | d :: x',m + 1,h2,h3 => exact h2 h3
    show (if blankP c = true then _ else if (c == 47 && (x.take m ++ r).head? == some 47) = true then _ else _) = _
    rw [if_neg hc,if_neg h3]
theorem skipN_row : ∀ (x : List UInt8) (b : Bool) (r : List UInt8),skipN b (x.take (skipN b x) ++ 10 :: r) = skipN b x + 1 + skipN false r
  | [],true,r => by
   show skipN true (10 :: r) = 0 + 1 + skipN false r
   show (if remarkP 10 = true then skipN true r + 1 else skipN false r + 1) = _
   rw [if_neg (by decide)]; omega
  | [],false,r => by
   show skipN false (10 :: r) = 0 + 1 + skipN false r
   show (if blankP 10 = true then skipN false r + 1 else _) = _
   rw [if_pos (by decide)]; omega
  | c :: x,true,r => by
   by_cases hc : remarkP c = true
   · have h : skipN true (c :: x) = skipN true x + 1:=by show (if remarkP c = true then _ else _) = _; rw [if_pos hc]
     rw [h,List.take_succ_cons,List.cons_append]
     show (if remarkP c = true then skipN true (x.take (skipN true x) ++ 10 :: r) + 1 else _) = _
     rw [if_pos hc,skipN_row x true r]; omega
   · have h : skipN true (c :: x) = skipN false x + 1:=by show (if remarkP c = true then _ else _) = _; rw [if_neg hc]
     rw [h,List.take_succ_cons,List.cons_append]
     show (if remarkP c = true then _ else skipN false (x.take (skipN false x) ++ 10 :: r) + 1) = _
     rw [if_neg hc,skipN_row x false r]; omega
  | c :: x,false,r => by
   by_cases hc : blankP c = true
   · have h : skipN false (c :: x) = skipN false x + 1:=by show (if blankP c = true then _ else _) = _; rw [if_pos hc]
     rw [h,List.take_succ_cons,List.cons_append]
     show (if blankP c = true then skipN false (x.take (skipN false x) ++ 10 :: r) + 1 else _) = _
     rw [if_pos hc,skipN_row x false r]; omega
   · by_cases h2 : (c == 47 && x.head? == some 47) = true
     · have h : skipN false (c :: x) = skipN true x + 1:=by show (if blankP c = true then _ else if (c == 47 && x.head? == some 47) = true then _ else _) = _; rw [if_neg hc,if_pos h2]
       rw [h,List.take_succ_cons,List.cons_append]
       have h3 : (c == 47 && (x.take (skipN true x) ++ 10 :: r).head? == some 47) = true:=by
        match x,h2 with
        | [],h2 => simp at h2
        | d :: x',h2 =>
         have : 0 < skipN true (d :: x'):=by
          show 0 < (if remarkP d = true then _ else _)
          by_cases hd : remarkP d = true
          · rw [if_pos hd]; omega
          · rw [if_neg hd]; omega
         obtain ⟨j,hj⟩ : ∃ j,skipN true (d :: x') = j + 1:=⟨skipN true (d :: x') - 1,by omega⟩
         rw [hj,List.take_succ_cons,List.cons_append]
         exact h2
       show (if blankP c = true then _ else if (c == 47 && (x.take (skipN true x) ++ 10 :: r).head? == some 47) = true then skipN true (x.take (skipN true x) ++ 10 :: r) + 1 else _) = _
       rw [if_neg hc,if_pos h3,skipN_row x true r]; omega
     · have h : skipN false (c :: x) = 0:=by show (if blankP c = true then _ else if (c == 47 && x.head? == some 47) = true then _ else _) = _; rw [if_neg hc,if_neg h2]
       rw [h,List.take_zero,List.nil_append]
       show (if blankP 10 = true then skipN false r + 1 else _) = _
       rw [if_pos (by decide)]; omega
/-- The next token's place, or the text's end. -/
def nextAt (l : List UInt8) : List TkA → Nat
  | [] => l.length
  | v :: _ => v.2.2.2
theorem next_of_run {l : List UInt8} {a : Nat} {us : List TkA} (ha : a ≤ l.length) (h : Run l a us) : nextAt l us = a:=by
 cases us with
 | nil =>
  have h' : l.length ≤ a:=h
  show l.length = a
  omega
 | cons u us => exact h.1
theorem drop_ne {l : List UInt8} {a : Nat} (h : a < l.length) : l.drop a ≠ []:=fun h0 => by
 have:=congrArg List.length h0
 rw [List.length_drop] at this
 simp at this
 omega
/-- A token's piece, whatever new row follows. -/
theorem piece_tok {l : List UInt8} {a e : Nat} {kd : Int} {t : List UInt8} {n : Int} {r : List UInt8} (hr : Ends r) (ha : a < l.length) (ht : tokL l a = some (kd,t,n,e)) :
    tokL (seg l a (skipTo l e) ++ r) 0 = some (kd,t,n,e - a):=by
  have he:=tokL_end ha ht
  have hs:=skipTo_ge l e
  rw [tokL_drop] at ht
  cases hy : tokL (l.drop a) 0 with
  | none => rw [hy] at ht; cases ht
  | some x =>
   obtain ⟨kd',t',n',e'⟩:=x
   rw [hy] at ht
   injection ht with ht
   injection ht with h1 ht
   injection ht with h2 ht
   injection ht with h3 ht
   subst h1; subst h2; subst h3
   have : e' = e - a:=by omega
   subst this
   exact tokL_cut hr (drop_ne ha) hy (by omega)
theorem piece_len {l : List UInt8} {a b : Nat} (hab : a ≤ b) (hb : b ≤ l.length) : (seg l a b).length = b - a:=by
 unfold seg
 rw [List.length_take,List.length_drop]; omega
theorem piece_drop {l : List UInt8} {a e b : Nat} (hae : a ≤ e) (heb : e ≤ b) : (seg l a b).drop (e - a) = seg l e b:=by
 unfold seg
 rw [List.drop_take,List.drop_drop]
 congr 1
 · omega
 · congr 1; omega
/-- A piece alone is its token. -/
theorem piece_run {l : List UInt8} {a e : Nat} {kd : Int} {t : List UInt8} {n : Int} (hw : Awk (l.drop a)) (ha : a < l.length) (ht : tokL l a = some (kd,t,n,e)) :
    scanRes (seg l a (skipTo l e)) = ([(kd,t,n,0)],0,0) ∨ 65536 < l.length:=by
  by_cases hl : 65536 < l.length
  · exact Or.inr hl
  refine Or.inl ?_
  have he:=tokL_end ha ht
  have hs:=skipTo_ge l e
  have hsl:=skipTo_le l e he.2
  have hlen:=piece_len (l:=l) (a:=a) (b:=skipTo l e) (by omega) hsl
  have h0 : skipTo (seg l a (skipTo l e)) 0 = 0:=by
   have:=awk_cut (m:=skipTo l e - a) Ends.nil (by omega) (drop_ne ha) hw
   rw [List.append_nil] at this
   unfold skipTo at this ⊢
   rw [List.drop_zero,Nat.zero_add]
   exact this
  refine scan_of_run (by omega) (by simp) ?_
  rw [h0]
  refine ⟨rfl,by omega,e - a,?_,?_⟩
  · have:=piece_tok Ends.nil ha ht
    rw [List.append_nil] at this
    exact this
  · show (seg l a (skipTo l e)).length ≤ skipTo (seg l a (skipTo l e)) (e - a)
    rw [hlen]
    have : skipTo (seg l a (skipTo l e)) (e - a) = (e - a) + skipN false (seg l e (skipTo l e)):=by
     show (e - a) + skipN false ((seg l a (skipTo l e)).drop (e - a)) = _
     rw [piece_drop (by omega) hs]
    rw [this]
    have h2 : skipN false (seg l e (skipTo l e)) = skipN false (l.drop e):=skipN_cut _ _ _ (by unfold skipTo; omega)
    rw [h2]
    unfold skipTo
    omega
/-- The text that is laid behind the first blanks: each token's piece, a new row, the blanks again. -/
def spaced (l gap : List UInt8) : List TkA → List UInt8
  | [] => []
  | u :: us => seg l u.2.2.2 (nextAt l us) ++ 10 :: (gap ++ spaced l gap us)
/-- The same tokens, at the places where they stand then. -/
def moved (l : List UInt8) (g : Nat) : Nat → List TkA → List TkA
  | _,[] => []
  | p,u :: us => (u.1,u.2.1,u.2.2.1,p) :: moved l g (p + (nextAt l us - u.2.2.2) + 1 + g) us
theorem moved_length (l : List UInt8) (g : Nat) : ∀ (us : List TkA) (p : Nat),(moved l g p us).length = us.length
  | [],_ => rfl
  | u :: us,p => by
   show (moved l g _ us).length + 1 = us.length + 1
   rw [moved_length l g us]
/-- Blanks that are passed over whole. -/
def Gap (gap : List UInt8) : Prop:=∀ r,skipN false (gap ++ r) = gap.length + skipN false r
theorem awk_spaced (l gap : List UInt8) : ∀ (us : List TkA) (a : Nat),a ≤ l.length → Awk (l.drop a) → Run l a us → Awk (spaced l gap us)
  | [],_,_,_,_ => rfl
  | u :: us,a,hal,hw,h => by
   obtain ⟨h1,ha,e,ht,h2⟩:=h
   have he:=tokL_end ha ht
   have hs:=skipTo_ge l e
   have hsl:=skipTo_le l e he.2
   have hn:=next_of_run hsl h2
   show Awk (seg l u.2.2.2 (nextAt l us) ++ 10 :: (gap ++ spaced l gap us))
   rw [h1,hn]
   exact awk_cut (Ends.row _) (by omega) (drop_ne ha) hw
theorem run_spaced (l gap : List UInt8) (hg : Gap gap) : ∀ (us : List TkA) (a : Nat) (P : List UInt8),a ≤ l.length → Awk (l.drop a) → Run l a us → Run (P ++ spaced l gap us) P.length (moved l gap.length P.length us)
  | [],_,P,_,_,_ => by
   show (P ++ []).length ≤ P.length
   rw [List.append_nil]; exact Nat.le_refl _
  | u :: us,a,P,hal,hw,h => by
   obtain ⟨h1,ha,e,ht,h2⟩:=h
   have he:=tokL_end ha ht
   have hs:=skipTo_ge l e
   have hsl:=skipTo_le l e he.2
   have hn:=next_of_run hsl h2
   have hlen:=piece_len (l:=l) (a:=a) (b:=skipTo l e) (by omega) hsl
   have hT : P ++ spaced l gap (u :: us) = P ++ (seg l a (skipTo l e) ++ 10 :: (gap ++ spaced l gap us)):=by
    show P ++ (seg l u.2.2.2 (nextAt l us) ++ 10 :: (gap ++ spaced l gap us)) = _
    rw [h1,hn]
   have hM : moved l gap.length P.length (u :: us) = (u.1,u.2.1,u.2.2.1,P.length) :: moved l gap.length (P.length + (skipTo l e - a) + 1 + gap.length) us:=by
    show (u.1,u.2.1,u.2.2.1,P.length) :: moved l gap.length (P.length + (nextAt l us - u.2.2.2) + 1 + gap.length) us = _
    rw [h1,hn]
   rw [hT,hM]
   refine ⟨rfl,?_,P.length + (e - a),?_,?_⟩
   · rw [List.length_append,List.length_append,List.length_cons]; omega
   · rw [tokL_drop,List.drop_left,piece_tok (Ends.row _) ha ht]; rfl
   · have hk : skipTo (P ++ (seg l a (skipTo l e) ++ 10 :: (gap ++ spaced l gap us))) (P.length + (e - a)) = P.length + (skipTo l e - a) + 1 + gap.length:=by
      unfold skipTo
      rw [← List.drop_drop,List.drop_left]
      rw [List.drop_append_of_le_length (by rw [show l.drop e = l.drop e from rfl,show e + skipN false (l.drop e) = skipTo l e from rfl,hlen]; omega)]
      rw [show e + skipN false (l.drop e) = skipTo l e from rfl,piece_drop (by omega) hs]
      have : seg l e (skipTo l e) = (l.drop e).take (skipN false (l.drop e)):=by
       unfold seg skipTo
       rw [Nat.add_sub_cancel_left]
      rw [this,skipN_row,hg,awk_spaced l gap us (skipTo l e) hsl (awk_skip l e) h2]
      unfold skipTo
      omega
     rw [hk]
     have ih:=run_spaced l gap hg us (skipTo l e) (P ++ (seg l a (skipTo l e) ++ 10 :: gap)) hsl (awk_skip l e) h2
     have hPl : (P ++ (seg l a (skipTo l e) ++ 10 :: gap)).length = P.length + (skipTo l e - a) + 1 + gap.length:=by
      rw [List.length_append,List.length_append,List.length_cons,hlen]; omega
     have hPa : P ++ (seg l a (skipTo l e) ++ 10 :: gap) ++ spaced l gap us = P ++ (seg l a (skipTo l e) ++ 10 :: (gap ++ spaced l gap us)):=by
      simp [List.append_assoc]
     rw [hPl,hPa] at ih
     exact ih
/-- The blanks of the law. -/
def gapOf (n : Nat) : List UInt8:=if n % 4 = 0 then [32] else if n % 4 = 1 then [10] else if n % 4 = 2 then [32,47,47,32,114,10] else [9,13,32]
theorem gap_gap (n : Nat) : Gap (gapOf n):=by
 intro r
 unfold gapOf
 by_cases h0 : n % 4 = 0
 · rw [if_pos h0]
   show (if blankP 32 = true then skipN false r + 1 else _) = 1 + skipN false r
   rw [if_pos (by decide)]; omega
 rw [if_neg h0]
 by_cases h1 : n % 4 = 1
 · rw [if_pos h1]
   show (if blankP 10 = true then skipN false r + 1 else _) = 1 + skipN false r
   rw [if_pos (by decide)]; omega
 rw [if_neg h1]
 by_cases h2 : n % 4 = 2
 · rw [if_pos h2]
   simp only [List.cons_append,List.nil_append,List.length_cons,List.length_nil]
   rw [skipN,if_pos (by decide),skipN,if_neg (by decide),if_pos (by rfl),skipN,if_pos (by decide),skipN,if_pos (by decide),skipN,if_pos (by decide),skipN,if_neg (by decide)]
   omega
 · rw [if_neg h2]
   simp only [List.cons_append,List.nil_append,List.length_cons,List.length_nil]
   rw [skipN,if_pos (by decide),skipN,if_pos (by decide),skipN,if_pos (by decide)]
   omega
theorem gap_short (n : Nat) : (gapOf n).length ≤ 6:=by
 unfold gapOf
 by_cases h0 : n % 4 = 0
 · rw [if_pos h0]; decide
 rw [if_neg h0]
 by_cases h1 : n % 4 = 1
 · rw [if_pos h1]; decide
 rw [if_neg h1]
 by_cases h2 : n % 4 = 2
 · rw [if_pos h2]; decide
 · rw [if_neg h2]; decide
theorem scan_spaced {l gap : List UInt8} {ts : List TkA} {m : Nat} (hg : Gap gap) (hl : l.length ≤ 65536) (hn : ts.length ≤ 20000) (h : scanRes l = (ts,m,0)) (hT : (gap ++ spaced l gap ts).length ≤ 65536) :
    scanRes (gap ++ spaced l gap ts) = (moved l gap.length gap.length ts,0,0):=by
  have hr:=run_of_scan hl h
  have ha:=skipTo_le l 0 (Nat.zero_le _)
  refine scan_of_run hT (by rw [moved_length]; exact hn) ?_
  have h0 : skipTo (gap ++ spaced l gap ts) 0 = gap.length:=by
   unfold skipTo
   rw [List.drop_zero,hg,awk_spaced l gap ts _ ha (awk_skip l 0) hr]
   omega
  rw [h0]
  exact run_spaced l gap hg ts _ gap ha (awk_skip l 0) hr
/-- What is known of each token: her piece alone. -/
theorem run_piece {l : List UInt8} (hl : l.length ≤ 65536) : ∀ (us : List TkA) (a : Nat),a ≤ l.length → Awk (l.drop a) → Run l a us → ∀ i (h : i < us.length),
    us[i].2.2.2 < nextAt l (us.drop (i + 1)) ∧ nextAt l (us.drop (i + 1)) ≤ l.length ∧ scanRes (seg l us[i].2.2.2 (nextAt l (us.drop (i + 1)))) = ([(us[i].1,us[i].2.1,us[i].2.2.1,0)],0,0)
  | [],_,_,_,_,i,hi => absurd hi (by simp)
  | u :: us,a,hal,hw,h,0,_ => by
   obtain ⟨h1,ha,e,ht,h2⟩:=h
   have he:=tokL_end ha ht
   have hs:=skipTo_ge l e
   have hsl:=skipTo_le l e he.2
   have hn:=next_of_run hsl h2
   show u.2.2.2 < nextAt l us ∧ nextAt l us ≤ l.length ∧ scanRes (seg l u.2.2.2 (nextAt l us)) = _
   rw [h1,hn]
   refine ⟨by omega,hsl,?_⟩
   rcases piece_run hw ha ht with h | h
   · exact h
   · omega
  | u :: us,a,hal,hw,h,i + 1,hi => by
   obtain ⟨h1,ha,e,ht,h2⟩:=h
   have he:=tokL_end ha ht
   have hsl:=skipTo_le l e he.2
   exact run_piece hl us (skipTo l e) hsl (awk_skip l e) h2 i (by simpa using hi)
end Go.Proofs.YtffnaknidofobaaGreatDoor

namespace Go.Proofs.YtffnaknidofobaaGreatDoor
abbrev Tx (t : Tr) : Prop:=∀ n,txtT n t
theorem tx_of {t : Tr} (h : t.text.length ≤ 1024) (hk : ∀ k ∈ t.kids,Tx k) : Tx t:=fun n => by
 cases n with
 | zero => trivial
 | succ n => exact ⟨by unfold maxLen; omega,fun k hm => hk k hm n⟩
def Kd (r : Q → Tr → Bool) (t : Tr) : Prop:=t.text.length ≤ 1024 ∧ ∀ k ∈ t.kids,∃ q,r q k = true
theorem rowB_mem : ∀ {ps : List (Tr → Bool)} {ts : List Tr},rowB ps ts = true → ∀ t ∈ ts,∃ p ∈ ps,p t = true
  | [],[],_,t,ht => by cases ht
  | p :: ps,t :: ts,h,u,hu => by
   simp only [rowB,Bool.and_eq_true] at h
   rcases List.mem_cons.1 hu with rfl | hu
   · exact ⟨p,by simp,h.1⟩
   · obtain ⟨q,hq,e⟩:=rowB_mem h.2 u hu
     exact ⟨q,by simp [hq],e⟩
  | [],_ :: _,h,_,_ => by simp [rowB] at h
  | _ :: _,[],h,_,_ => by simp [rowB] at h
theorem parted_mem {ts : List Tr} {n : Int} {p q : Tr → Bool} (h : partedB ts n p q = true) : ∀ t ∈ ts,p t = true ∨ q t = true:=fun t ht => by
 simp only [partedB,Bool.and_eq_true] at h
 rw [← List.take_append_drop n.toNat ts] at ht
 rcases List.mem_append.1 ht with h1 | h1
 · exact .inl (List.all_eq_true.1 h.2.2.1 t h1)
 · exact .inr (List.all_eq_true.1 h.2.2.2 t h1)
section
variable {r : Q → Tr → Bool} {t : Tr} {ts : List Tr} {a b c : Q}
theorem row0 {p : Tr → Prop} (h : rowB [] ts = true) : ∀ k ∈ ts,p k:=fun k hk => by obtain ⟨p,hp,_⟩:=rowB_mem h k hk; cases hp
theorem row1S (h : rowB [r a] ts = true) : ∀ k ∈ ts,∃ q,r q k = true:=fun k hk => by
 obtain ⟨p,hp,e⟩:=rowB_mem h k hk
 simp at hp; subst hp; exact ⟨_,e⟩
theorem row2S (h : rowB [r a,r b] ts = true) : ∀ k ∈ ts,∃ q,r q k = true:=fun k hk => by
 obtain ⟨p,hp,e⟩:=rowB_mem h k hk
 simp at hp; rcases hp with rfl | rfl <;> exact ⟨_,e⟩
theorem row3S (h : rowB [r a,r b,r c] ts = true) : ∀ k ∈ ts,∃ q,r q k = true:=fun k hk => by
 obtain ⟨p,hp,e⟩:=rowB_mem h k hk
 simp at hp; rcases hp with rfl | rfl | rfl <;> exact ⟨_,e⟩
theorem all1 (h : ts.all (r a) = true) : ∀ k ∈ ts,∃ q,r q k = true:=fun k hk => ⟨_,List.all_eq_true.1 h k hk⟩
theorem part2 {n : Int} (h : partedB ts n (r a) (r b) = true) : ∀ k ∈ ts,∃ q,r q k = true:=fun k hk => by rcases parted_mem h k hk with e | e <;> exact ⟨_,e⟩
theorem nameP_lenS {s : List UInt8} (h : nameP s = true) : s.length ≤ 1024:=by
 unfold nameP at h
 split at h
 · cases h
 · rename_i h1; omega
theorem named_lenS (h : namedT t = true) : t.text.length ≤ 1024:=by simp only [namedT,Bool.and_eq_true] at h; exact nameP_lenS h.2
theorem bare_len (h : bareT t = true) : t.text.length ≤ 1024:=by simp only [bareT,Bool.and_eq_true,beq_iff_eq] at h; rw [h.1]; simp
theorem numb_len (h : numberedT t = true) : t.text.length ≤ 1024:=by simp only [numberedT,beq_iff_eq] at h; rw [h]; simp
theorem prefix_lenS {s : List UInt8} (h : prefixL s = true) : s.length ≤ 1024:=by
 simp only [prefixL,Bool.or_eq_true,beq_iff_eq] at h
 rcases h with ((h | h) | h) | h <;> rw [h] <;> simp
theorem rank_lenS {s : List UInt8} (h : 0 < rankL s) : s.length ≤ 1024:=by
 rcases Nat.lt_or_ge s.length 3 with h1 | h1
 · omega
 · exfalso
   have hn : ∀ u : List UInt8,u.length < 3 → (s == u) = false:=fun u hu => by
    rw [beq_eq_false_iff_ne]; intro e; rw [e] at h1; omega
   simp [rankL,hn] at h
theorem typB_k (h : typB r t = true) : Kd r t:=by
 unfold typB at h
 split at h
 · simp only [Bool.and_eq_true] at h; exact ⟨named_lenS h.1,row0 h.2⟩
 · split at h
   · simp only [Bool.and_eq_true] at h; exact ⟨bare_len h.1,row1S h.2⟩
   · split at h
     · simp only [Bool.and_eq_true] at h; exact ⟨numb_len h.1,part2 h.2⟩
     · cases h
theorem parB_k (h : parB r t = true) : Kd r t:=by simp only [parB,Bool.and_eq_true] at h; exact ⟨named_lenS h.2.1,row1S h.2.2⟩
theorem sigB_k (h : sigB r t = true) : Kd r t:=by simp only [sigB,Bool.and_eq_true] at h; exact ⟨numb_len h.2.1,part2 h.2.2⟩
theorem blkB_k (h : blkB r t = true) : Kd r t:=by simp only [blkB,Bool.and_eq_true] at h; exact ⟨bare_len h.2.1,all1 h.2.2⟩
theorem ifB_k (h : ifB r t = true) : Kd r t:=by
 simp only [ifB,Bool.and_eq_true,Bool.or_eq_true] at h
 exact ⟨bare_len h.2.1,h.2.2.elim (fun e => row2S e) (fun e => row3S e)⟩
theorem elsB_k (h : elsB r t = true) : Kd r t:=by
 simp only [elsB,Bool.or_eq_true] at h
 rcases h with h | h
 · exact blkB_k h
 · exact ifB_k h
theorem asgB_k {p : Tr → Bool} (h : asgB r p t = true) : Kd r t:=by simp only [asgB,Bool.and_eq_true] at h; exact ⟨numb_len h.1,all1 h.2.2.2.2⟩
theorem stmB_k (h : stmB r t = true) : Kd r t:=by
 unfold stmB at h
 split at h
 · exact blkB_k h
 · split at h
   · exact ifB_k h
   · split at h
     · simp only [Bool.and_eq_true,Bool.or_eq_true] at h; exact ⟨named_lenS h.1,h.2.elim (fun e => row1S e) (fun e => row2S e)⟩
     · split at h
       · exact asgB_k h
       · split at h
         · exact asgB_k h
         · split at h
           · simp only [Bool.and_eq_true] at h; exact ⟨bare_len h.1,row1S h.2.2⟩
           · split at h
             · simp only [Bool.and_eq_true,Bool.or_eq_true] at h; exact ⟨bare_len h.1,h.2.elim (fun e => row1S e) (fun e => row2S e)⟩
             · split at h
               · simp only [Bool.and_eq_true] at h; exact ⟨bare_len h.1,all1 h.2⟩
               · split at h
                 · simp only [Bool.and_eq_true] at h; exact ⟨bare_len h.1,row0 h.2⟩
                 · cases h
theorem leafB_k (h : leafB t = true) : Kd r t:=by
 unfold leafB at h
 split at h
 · cases h
 · rename_i h0
   have e : t.kids = []:=List.eq_nil_of_length_eq_zero (by omega)
   refine ⟨?_,fun k hk => by rw [e] at hk; cases hk⟩
   split at h
   · simp only [Bool.and_eq_true] at h; exact numb_len h.1
   · split at h
     · simp only [Bool.and_eq_true,decide_eq_true_eq] at h; exact h.2
     · split at h
       · simp only [Bool.and_eq_true] at h; exact numb_len h.1
       · split at h
         · exact named_lenS h
         · exact bare_len h
theorem expB_k (h : expB r t = true) : Kd r t:=by
 unfold expB at h
 split at h
 · exact leafB_k h
 · split at h
   · simp only [Bool.and_eq_true] at h; exact ⟨named_lenS h.1,all1 h.2⟩
   · split at h
     · simp only [Bool.and_eq_true] at h; exact ⟨bare_len h.1,part2 h.2⟩
     · split at h
       · simp only [Bool.and_eq_true] at h; exact ⟨bare_len h.1,row2S h.2⟩
       · split at h
         · simp only [Bool.and_eq_true] at h; exact ⟨named_lenS h.1,row1S h.2⟩
         · split at h
           · simp only [Bool.and_eq_true] at h; exact ⟨bare_len h.1,row2S h.2⟩
           · split at h
             · simp only [Bool.and_eq_true] at h; exact ⟨numb_len h.1,all1 h.2.2⟩
             · split at h
               · simp only [Bool.and_eq_true] at h; exact ⟨bare_len h.1,all1 h.2.2⟩
               · split at h
                 · simp only [Bool.and_eq_true] at h; exact ⟨prefix_lenS h.2.1,row1S h.2.2⟩
                 · split at h
                   · simp only [Bool.and_eq_true,decide_eq_true_eq] at h; exact ⟨rank_lenS h.2.1,row2S h.2.2⟩
                   · cases h
end
theorem snd_tx : ∀ m q t,snd m q t = true → Tx t
  | 0,_,_,h => by simp [snd] at h
  | m + 1,q,t,h => by
   have k : Kd (snd m) t:=by
    cases q with
    | typ => exact typB_k h
    | par => exact parB_k h
    | sig => exact sigB_k h
    | blk => exact blkB_k h
    | ifS => exact ifB_k h
    | els => exact elsB_k h
    | stm => exact stmB_k h
    | exp => exact expB_k h
   exact tx_of k.1 fun u hu => by obtain ⟨q',e⟩:=k.2 u hu; exact snd_tx m q' u e
theorem kd_tx {m : Nat} {t : Tr} (k : Kd (snd m) t) : Tx t:=tx_of k.1 fun u hu => by obtain ⟨q',e⟩:=k.2 u hu; exact snd_tx m q' u e
theorem fldB_tx {m : Nat} {t : Tr} (h : fldB (snd m) t = true) : Tx t:=by simp only [fldB,Bool.and_eq_true] at h; exact kd_tx ⟨named_lenS h.2.1,row1S h.2.2⟩
theorem metB_tx {m : Nat} {t : Tr} (h : metB (snd m) t = true) : Tx t:=by simp only [metB,Bool.and_eq_true] at h; exact kd_tx ⟨named_lenS h.2.1,row1S h.2.2⟩
theorem recB_tx {m : Nat} {t : Tr} (h : recB (snd m) t = true) : Tx t:=by simp only [recB,Bool.and_eq_true] at h; exact kd_tx (parB_k h.1)
theorem decB_tx {m : Nat} {t : Tr} (h : decB m t = true) : Tx t:=by
 unfold decB at h
 split at h
 · simp only [Bool.and_eq_true] at h; exact tx_of (named_lenS h.1) fun k hk => fldB_tx (List.all_eq_true.1 h.2 k hk)
 · split at h
   · simp only [Bool.and_eq_true] at h; exact tx_of (named_lenS h.1) fun k hk => metB_tx (List.all_eq_true.1 h.2 k hk)
   · split at h
     · simp only [Bool.and_eq_true] at h
       exact tx_of (named_lenS h.1) fun k hk => by
        obtain ⟨p,hp,e⟩:=rowB_mem h.2 k hk
        simp at hp; rcases hp with rfl | rfl <;> exact snd_tx _ _ _ e
     · split at h
       · simp only [Bool.and_eq_true] at h
         exact tx_of (named_lenS h.1) fun k hk => by
          obtain ⟨p,hp,e⟩:=rowB_mem h.2 k hk
          simp at hp
          rcases hp with rfl | rfl | rfl
          · exact recB_tx e
          · exact snd_tx _ _ _ e
          · exact snd_tx _ _ _ e
       · cases h
theorem sound_tx {t : Tr} (h : soundT t = true) : Tx t:=by
 simp only [soundT,prgB,Bool.and_eq_true] at h
 exact tx_of (bare_len h.2.2.1) fun k hk => decB_tx (List.all_eq_true.1 h.2.2.2 k hk)
end Go.Proofs.YtffnaknidofobaaGreatDoor

namespace Go.Proofs.YtffnaknidofobaaGreatDoor
open Go.RowKit
def withEnd (ts : List Tk) (n : Nat) : List Tk:=ts ++ [(4,[],0,n)]
theorem withEnd_len (ts : List Tk) (n : Nat) : (withEnd ts n).length = ts.length + 1:=by simp [withEnd]
theorem withEnd_last (ts : List Tk) (n : Nat) : tkA (withEnd ts n) ts.length = (4,[],0,n):=by simp [tkA,withEnd,List.getD_eq_getElem?_getD]
theorem withEnd_at (ts : List Tk) (n : Nat) {k : Nat} (h : k < ts.length) : tkA (withEnd ts n) k = ts[k]:=by simp [tkA,withEnd,List.getD_eq_getElem?_getD,List.getElem?_append_left h,h]
theorem scan_len {l : List UInt8} (h : (scanRes l).2.2 = 0) : l.length ≤ 65536:=by
 unfold scanRes at h
 split at h
 · cases h
 · omega
theorem scan_run {l : List UInt8} (h : (scanRes l).2.2 = 0) : Run l (skipTo l 0) (scanRes l).1:=by
 have:=run_of_scan (l:=l) (ts:=(scanRes l).1) (m:=(scanRes l).2.1) (scan_len h) (by rw [← h])
 exact this
theorem run_mem {l : List UInt8} : ∀ (us : List TkA) (a : Nat),Run l a us → ∀ u ∈ us,u.2.2.2 < l.length ∧ ∃ e,tokL l u.2.2.2 = some (u.1,u.2.1,u.2.2.1,e)
  | [],_,_,u,hu => by cases hu
  | v :: us,a,h,u,hu => by
   obtain ⟨h1,ha,e,ht,h2⟩:=h
   rcases List.mem_cons.1 hu with rfl | hu
   · rw [h1]; exact ⟨ha,e,ht⟩
   · exact run_mem us _ h2 u hu
theorem parseP_some {l : List UInt8} {t : Tr} {a : Nat} {er : Int} (h : parseP l = (some t,a,er)) : (scanRes l).2.2 = 0 ∧ smallT t = true ∧ a = 0 ∧ er = 0 ∧ ∃ j,treeR (withEnd (scanRes l).1 l.length) = .ok t j:=by
 unfold parseP at h
 split at h
 · cases h
 · rename_i h0
   cases hT : treeR ((scanRes l).1 ++ [(4,[],0,l.length)]) with
   | bad j => rw [hT] at h; cases h
   | ok u j =>
    rw [hT] at h
    simp only at h
    split at h
    · rename_i hs
      injection h with h1 h2
      injection h1 with h1
      injection h2 with h2 h3
      subst h1
      exact ⟨by simpa using h0,hs,h2.symm,h3.symm,j,hT⟩
    · cases h
theorem tok_alone {l : List UInt8} {a e : Nat} {kd : Int} {t : List UInt8} {n : Int} (ha : a < l.length) (ht : tokL l a = some (kd,t,n,e)) : tokL (seg l a e) 0 = some (kd,t,n,e - a):=by
 have he:=tokL_end ha ht
 rw [tokL_drop] at ht
 cases hy : tokL (l.drop a) 0 with
 | none => rw [hy] at ht; cases ht
 | some x =>
  obtain ⟨kd',t',n',e'⟩:=x
  rw [hy] at ht
  injection ht with ht
  injection ht with h1 ht
  injection ht with h2 ht
  injection ht with h3 ht
  subst h1; subst h2; subst h3
  have : e' = e - a:=by omega
  subst this
  have hc:=tokL_cut (m:=e - a) Ends.nil (drop_ne ha) hy (Nat.le_refl _)
  rw [List.append_nil] at hc
  exact hc
theorem tokL_kinds {l : List UInt8} {a e : Nat} {kd : Int} {t : List UInt8} {n : Int} (ha : a < l.length) (h : tokL l a = some (kd,t,n,e)) : (kd = 1 → nameP t = true) ∧ (kd = 3 → t.length ≤ 1024) ∧ (kd = 2 → 0 ≤ n):=by
 have he:=tokL_end ha h
 have hal:=tok_alone ha h
 unfold tokL at h
 split at h
 · unfold nameL at h
   split at h
   · cases h
   · rename_i h64
     injection h with h; injection h with h1 h; injection h with h2 h; injection h with h3 h4
     refine ⟨fun hk => ?_,fun hk => ?_,fun _ => by rw [← h3]; exact Int.le_refl _⟩
     · have hl : t.length = e - a:=by rw [← h2,h4]; exact piece_len (by omega) he.2
       have ht : seg l a e = t:=by rw [← h2,h4]
       rw [ht] at hal
       unfold nameP
       rw [if_neg (by omega),hal]
       simp [hk,hl]
     · rw [← h1] at hk; unfold kindOf at hk; split at hk <;> cases hk
 · split at h
   · unfold numL at h
     split at h
     · cases h
     · split at h
       · cases h
       · split at h
         · cases h
         · injection h with h; injection h with h1 h; injection h with _ h; injection h with h3 _
           exact ⟨fun hk => by omega,fun hk => by omega,fun _ => by rw [← h3]; exact Int.natCast_nonneg _⟩
   · split at h
     · unfold textL at h
       split at h
       · rename_i t' e' hr
         injection h with h; injection h with h1 h; injection h with h2 h; injection h with h3 _
         refine ⟨fun hk => by omega,fun _ => ?_,fun hk => by omega⟩
         unfold textRes at hr
         split at hr
         · split at hr
           · rename_i hlen
             injection hr with hr; injection hr with hr _
             rw [← h2,← hr]; exact hlen
           · cases hr
         · cases hr
       · cases h
     · unfold markL at h
       split at h
       · injection h with h; injection h with h1 _
         exact ⟨fun hk => by omega,fun hk => by omega,fun hk => by omega⟩
       · split at h
         · injection h with h; injection h with h1 _
           exact ⟨fun hk => by omega,fun hk => by omega,fun hk => by omega⟩
         · cases h
theorem scan_tks {l : List UInt8} (h : (scanRes l).2.2 = 0) (n : Nat) : Tks (withEnd (scanRes l).1 n):=by
 have key : ∀ i,(kindA (withEnd (scanRes l).1 n) i = 1 → nameP (textA (withEnd (scanRes l).1 n) i) = true) ∧ (kindA (withEnd (scanRes l).1 n) i = 3 → (textA (withEnd (scanRes l).1 n) i).length ≤ 1024) ∧ (kindA (withEnd (scanRes l).1 n) i = 2 → 0 ≤ numA (withEnd (scanRes l).1 n) i):=by
  intro i
  rcases Nat.lt_or_ge i (scanRes l).1.length with hi | hi
  · obtain ⟨ha,e,ht⟩:=run_mem _ _ (scan_run h) ((scanRes l).1[i]) (List.getElem_mem hi)
    have:=tokL_kinds ha ht
    simp only [kindA,textA,numA,withEnd_at _ _ hi]; exact this
  · have hk : kindA (withEnd (scanRes l).1 n) i = 4 ∨ kindA (withEnd (scanRes l).1 n) i = 0:=by
     rcases Nat.eq_or_lt_of_le hi with e | e
     · left; rw [← e]; simp [kindA,withEnd_last]
     · right
       have hn : (withEnd (scanRes l).1 n)[i]? = none:=List.getElem?_eq_none (by rw [withEnd_len]; omega)
       simp [kindA,tkA,List.getD_eq_getElem?_getD,hn]
    refine ⟨fun e => ?_,fun e => ?_,fun e => ?_⟩ <;> rcases hk with h1 | h1 <;> rw [h1] at e <;> cases e
 exact ⟨fun i => (key i).1,fun i => (key i).2.1,fun i => (key i).2.2⟩
theorem parse_sound {l : List UInt8} {t : Tr} (h : parseP l = (some t,0,0)) : soundT t = true:=by
 obtain ⟨h0,hs,_,_,j,hj⟩:=parseP_some h
 exact treeR_sound (scan_tks h0 _) hj hs
end Go.Proofs.YtffnaknidofobaaGreatDoor
