/- Blanks between tokens: the plain mathematics of ScanSpaced. -/
import Derived.Test.YtffnaknidofobaaGreatDoorPlacMJt
namespace Go.Proofs.YtffnaknidofobaaGreatDoor
open Go.RowKit
/-- From a place on the text is just these tokens, to its end. -/
def Run (l : List UInt8) : Nat → List TkA → Prop
  | a,[] => l.length ≤ a
  | a,u :: us => u.2.2.2 = a ∧ a < l.length ∧ ∃ e,tokL l a = some (u.1,u.2.1,u.2.2.1,e) ∧ Run l (skipTo l e) us
theorem run_of_scanF (l : List UInt8) : ∀ (f a : Nat) (acc ts : List TkA) (m : Nat),l.length - a < f → scanF l f a acc = (ts,m,0) → ∃ us,ts = acc ++ us ∧ Run l a us
  | 0,a,acc,ts,m,hf,h => by omega
  | f + 1,a,acc,ts,m,hf,h => by
   by_cases ha : a < l.length
   · by_cases hl : acc.length = 20000
     · rw [scanF_large (Nat.succ_pos _) ha hl] at h; cases h
     · cases ht : tokL l a with
       | none => rw [scanF_fault (Nat.succ_pos _) ha hl ht] at h; cases h
       | some x =>
        obtain ⟨kd,t,n,e⟩:=x
        rw [scanF_step ha hl ht] at h
        have he:=tokL_end ha ht
        have hs:=skipTo_ge l e
        obtain ⟨us,h1,h2⟩:=run_of_scanF l f _ _ ts m (by omega) h
        refine ⟨(kd,t,n,a) :: us,?_,rfl,ha,e,ht,h2⟩
        rw [h1,List.append_assoc]; rfl
   · rw [scanF_end (Nat.succ_pos _) ha] at h
     refine ⟨[],?_,by show l.length ≤ a; omega⟩
     rw [List.append_nil]
     injection h with h _
     exact h.symm
theorem scanF_of_run (l : List UInt8) : ∀ (us : List TkA) (f a : Nat) (acc : List TkA),l.length - a < f → acc.length + us.length ≤ 20000 → Run l a us → scanF l f a acc = (acc ++ us,0,0)
  | [],f,a,acc,hf,_,h => by
   have h' : l.length ≤ a:=h
   rw [scanF_end (by omega) (by omega),List.append_nil]
  | u :: us,f,a,acc,hf,hc,h => by
   obtain ⟨h1,ha,e,ht,h2⟩:=h
   obtain ⟨kd,t,n,a'⟩:=u
   dsimp only at h1 ht
   subst h1
   obtain ⟨f,rfl⟩ : ∃ g,f = g + 1:=⟨f - 1,by omega⟩
   have he:=tokL_end ha ht
   have hs:=skipTo_ge l e
   rw [List.length_cons] at hc
   rw [scanF_step ha (by omega) ht,scanF_of_run l us f _ _ (by omega) (by rw [List.length_append,List.length_singleton]; omega) h2,List.append_assoc]
   rfl
theorem run_of_scan {l : List UInt8} {ts : List TkA} {m : Nat} (hl : l.length ≤ 65536) (h : scanRes l = (ts,m,0)) : Run l (skipTo l 0) ts:=by
 unfold scanRes at h
 rw [if_neg (by omega)] at h
 obtain ⟨us,h1,h2⟩:=run_of_scanF l _ _ _ _ _ (by omega) h
 rw [List.nil_append] at h1
 rw [h1]; exact h2
theorem scan_of_run {l : List UInt8} {ts : List TkA} (hl : l.length ≤ 65536) (hn : ts.length ≤ 20000) (h : Run l (skipTo l 0) ts) : scanRes l = (ts,0,0):=by
 unfold scanRes
 rw [if_neg (by omega),scanF_of_run l ts _ _ _ (by omega) (by simpa using hn) h,List.nil_append]
/-- A place where no blank and no remark begins. -/
def Awk (y : List UInt8) : Prop:=skipN false y = 0
theorem awk_drop : ∀ (x : List UInt8) (b : Bool),Awk (x.drop (skipN b x))
  | [],b => by
   unfold Awk
   rw [List.drop_nil]
   rfl
  | c :: x,true => by
   by_cases hc : remarkP c = true
   · have h : skipN true (c :: x) = skipN true x + 1:=by show (if remarkP c = true then _ else _) = _; rw [if_pos hc]
     rw [h,List.drop_succ_cons]
     exact awk_drop x true
   · have h : skipN true (c :: x) = skipN false x + 1:=by show (if remarkP c = true then _ else _) = _; rw [if_neg hc]
     rw [h,List.drop_succ_cons]
     exact awk_drop x false
  | c :: x,false => by
   by_cases hc : blankP c = true
   · have h : skipN false (c :: x) = skipN false x + 1:=by show (if blankP c = true then _ else _) = _; rw [if_pos hc]
     rw [h,List.drop_succ_cons]
     exact awk_drop x false
   · by_cases h2 : (c == 47 && x.head? == some 47) = true
     · have h : skipN false (c :: x) = skipN true x + 1:=by show (if blankP c = true then _ else if (c == 47 && x.head? == some 47) = true then _ else _) = _; rw [if_neg hc,if_pos h2]
       rw [h,List.drop_succ_cons]
       exact awk_drop x true
     · have h : skipN false (c :: x) = 0:=by show (if blankP c = true then _ else if (c == 47 && x.head? == some 47) = true then _ else _) = _; rw [if_neg hc,if_neg h2]
       rw [h,List.drop_zero]
       exact h
theorem awk_skip (l : List UInt8) (k : Nat) : Awk (l.drop (skipTo l k)):=by
 unfold skipTo
 rw [← List.drop_drop]
 exact awk_drop _ _
theorem awk_cut {y r : List UInt8} {m : Nat} (hr : Ends r) (hm : 1 ≤ m) (hy : y ≠ []) (h : Awk y) : Awk (y.take m ++ r):=by
 match y,m,hy,hm with
 | c :: x,m + 1,_,_ =>
  rw [List.take_succ_cons,List.cons_append]
  by_cases hc : blankP c = true
  · have h' : (if blankP c = true then skipN false x + 1 else if (c == 47 && x.head? == some 47) = true then skipN true x + 1 else 0) = 0:=h
    rw [if_pos hc] at h'; omega
  · have h2 : ¬ (c == 47 && x.head? == some 47) = true:=by
     intro h2
     have h' : (if blankP c = true then skipN false x + 1 else if (c == 47 && x.head? == some 47) = true then skipN true x + 1 else 0) = 0:=h
     rw [if_neg hc,if_pos h2] at h'; omega
    have h3 : ¬ (c == 47 && (x.take m ++ r).head? == some 47) = true:=by
     intro h3
     rw [Bool.and_eq_true,beq_iff_eq,beq_iff_eq] at h3 h2
     have hrn : ¬ r.head? = some 47:=fun h => absurd (hr 47 h) (by decide)
     match x,m,h2,h3 with
     | [],m,_,h3 => rw [List.take_nil,List.nil_append] at h3; exact hrn h3.2
     | d :: x',0,_,h3 => rw [List.take_zero,List.nil_append] at h3; exact hrn h3.2
     | d :: x',m + 1,h2,h3 => exact h2 h3
    show (if blankP c = true then _ else if (c == 47 && (x.take m ++ r).head? == some 47) = true then _ else _) = _
    rw [if_neg hc,if_neg h3]
theorem skipN_row : ∀ (x : List UInt8) (b : Bool) (r : List UInt8),skipN b (x.take (skipN b x) ++ 10 :: r) = skipN b x + 1 + skipN false r
  | [],true,r => by
   show skipN true (10 :: r) = 0 + 1 + skipN false r
   show (if remarkP 10 = true then skipN true r + 1 else skipN false r + 1) = _
   rw [if_neg (by decide)]; omega
  | [],false,r => by
   show skipN false (10 :: r) = 0 + 1 + skipN false r
   show (if blankP 10 = true then skipN false r + 1 else _) = _
   rw [if_pos (by decide)]; omega
  | c :: x,true,r => by
   by_cases hc : remarkP c = true
   · have h : skipN true (c :: x) = skipN true x + 1:=by show (if remarkP c = true then _ else _) = _; rw [if_pos hc]
     rw [h,List.take_succ_cons,List.cons_append]
     show (if remarkP c = true then skipN true (x.take (skipN true x) ++ 10 :: r) + 1 else _) = _
     rw [if_pos hc,skipN_row x true r]; omega
   · have h : skipN true (c :: x) = skipN false x + 1:=by show (if remarkP c = true then _ else _) = _; rw [if_neg hc]
     rw [h,List.take_succ_cons,List.cons_append]
     show (if remarkP c = true then _ else skipN false (x.take (skipN false x) ++ 10 :: r) + 1) = _
     rw [if_neg hc,skipN_row x false r]; omega
  | c :: x,false,r => by
   by_cases hc : blankP c = true
   · have h : skipN false (c :: x) = skipN false x + 1:=by show (if blankP c = true then _ else _) = _; rw [if_pos hc]
     rw [h,List.take_succ_cons,List.cons_append]
     show (if blankP c = true then skipN false (x.take (skipN false x) ++ 10 :: r) + 1 else _) = _
     rw [if_pos hc,skipN_row x false r]; omega
   · by_cases h2 : (c == 47 && x.head? == some 47) = true
     · have h : skipN false (c :: x) = skipN true x + 1:=by show (if blankP c = true then _ else if (c == 47 && x.head? == some 47) = true then _ else _) = _; rw [if_neg hc,if_pos h2]
       rw [h,List.take_succ_cons,List.cons_append]
       have h3 : (c == 47 && (x.take (skipN true x) ++ 10 :: r).head? == some 47) = true:=by
        match x,h2 with
        | [],h2 => simp at h2
        | d :: x',h2 =>
         have : 0 < skipN true (d :: x'):=by
          show 0 < (if remarkP d = true then _ else _)
          by_cases hd : remarkP d = true
          · rw [if_pos hd]; omega
          · rw [if_neg hd]; omega
         obtain ⟨j,hj⟩ : ∃ j,skipN true (d :: x') = j + 1:=⟨skipN true (d :: x') - 1,by omega⟩
         rw [hj,List.take_succ_cons,List.cons_append]
         exact h2
       show (if blankP c = true then _ else if (c == 47 && (x.take (skipN true x) ++ 10 :: r).head? == some 47) = true then skipN true (x.take (skipN true x) ++ 10 :: r) + 1 else _) = _
       rw [if_neg hc,if_pos h3,skipN_row x true r]; omega
     · have h : skipN false (c :: x) = 0:=by show (if blankP c = true then _ else if (c == 47 && x.head? == some 47) = true then _ else _) = _; rw [if_neg hc,if_neg h2]
       rw [h,List.take_zero,List.nil_append]
       show (if blankP 10 = true then skipN false r + 1 else _) = _
       rw [if_pos (by decide)]; omega
/-- The next token's place, or the text's end. -/
def nextAt (l : List UInt8) : List TkA → Nat
  | [] => l.length
  | v :: _ => v.2.2.2
theorem next_of_run {l : List UInt8} {a : Nat} {us : List TkA} (ha : a ≤ l.length) (h : Run l a us) : nextAt l us = a:=by
 cases us with
 | nil =>
  have h' : l.length ≤ a:=h
  show l.length = a
  omega
 | cons u us => exact h.1
theorem drop_ne {l : List UInt8} {a : Nat} (h : a < l.length) : l.drop a ≠ []:=fun h0 => by
 have:=congrArg List.length h0
 rw [List.length_drop] at this
 simp at this
 omega
/-- A token's piece, whatever new row follows. -/
theorem piece_tok {l : List UInt8} {a e : Nat} {kd : Int} {t : List UInt8} {n : Int} {r : List UInt8} (hr : Ends r) (ha : a < l.length) (ht : tokL l a = some (kd,t,n,e)) :
    tokL (seg l a (skipTo l e) ++ r) 0 = some (kd,t,n,e - a):=by
  have he:=tokL_end ha ht
  have hs:=skipTo_ge l e
  rw [tokL_drop] at ht
  cases hy : tokL (l.drop a) 0 with
  | none => rw [hy] at ht; cases ht
  | some x =>
   obtain ⟨kd',t',n',e'⟩:=x
   rw [hy] at ht
   injection ht with ht
   injection ht with h1 ht
   injection ht with h2 ht
   injection ht with h3 ht
   subst h1; subst h2; subst h3
   have : e' = e - a:=by omega
   subst this
   exact tokL_cut hr (drop_ne ha) hy (by omega)
theorem piece_len {l : List UInt8} {a b : Nat} (hab : a ≤ b) (hb : b ≤ l.length) : (seg l a b).length = b - a:=by
 unfold seg
 rw [List.length_take,List.length_drop]; omega
theorem piece_drop {l : List UInt8} {a e b : Nat} (hae : a ≤ e) (heb : e ≤ b) : (seg l a b).drop (e - a) = seg l e b:=by
 unfold seg
 rw [List.drop_take,List.drop_drop]
 congr 1
 · omega
 · congr 1; omega
/-- A piece alone is its token. -/
theorem piece_run {l : List UInt8} {a e : Nat} {kd : Int} {t : List UInt8} {n : Int} (hw : Awk (l.drop a)) (ha : a < l.length) (ht : tokL l a = some (kd,t,n,e)) :
    scanRes (seg l a (skipTo l e)) = ([(kd,t,n,0)],0,0) ∨ 65536 < l.length:=by
  by_cases hl : 65536 < l.length
  · exact Or.inr hl
  refine Or.inl ?_
  have he:=tokL_end ha ht
  have hs:=skipTo_ge l e
  have hsl:=skipTo_le l e he.2
  have hlen:=piece_len (l:=l) (a:=a) (b:=skipTo l e) (by omega) hsl
  have h0 : skipTo (seg l a (skipTo l e)) 0 = 0:=by
   have:=awk_cut (m:=skipTo l e - a) Ends.nil (by omega) (drop_ne ha) hw
   rw [List.append_nil] at this
   unfold skipTo at this ⊢
   rw [List.drop_zero,Nat.zero_add]
   exact this
  refine scan_of_run (by omega) (by simp) ?_
  rw [h0]
  refine ⟨rfl,by omega,e - a,?_,?_⟩
  · have:=piece_tok Ends.nil ha ht
    rw [List.append_nil] at this
    exact this
  · show (seg l a (skipTo l e)).length ≤ skipTo (seg l a (skipTo l e)) (e - a)
    rw [hlen]
    have : skipTo (seg l a (skipTo l e)) (e - a) = (e - a) + skipN false (seg l e (skipTo l e)):=by
     show (e - a) + skipN false ((seg l a (skipTo l e)).drop (e - a)) = _
     rw [piece_drop (by omega) hs]
    rw [this]
    have h2 : skipN false (seg l e (skipTo l e)) = skipN false (l.drop e):=skipN_cut _ _ _ (by unfold skipTo; omega)
    rw [h2]
    unfold skipTo
    omega
/-- The text that is laid behind the first blanks: each token's piece, a new row, the blanks again. -/
def spaced (l gap : List UInt8) : List TkA → List UInt8
  | [] => []
  | u :: us => seg l u.2.2.2 (nextAt l us) ++ 10 :: (gap ++ spaced l gap us)
/-- The same tokens, at the places where they stand then. -/
def moved (l : List UInt8) (g : Nat) : Nat → List TkA → List TkA
  | _,[] => []
  | p,u :: us => (u.1,u.2.1,u.2.2.1,p) :: moved l g (p + (nextAt l us - u.2.2.2) + 1 + g) us
theorem moved_length (l : List UInt8) (g : Nat) : ∀ (us : List TkA) (p : Nat),(moved l g p us).length = us.length
  | [],_ => rfl
  | u :: us,p => by
   show (moved l g _ us).length + 1 = us.length + 1
   rw [moved_length l g us]
/-- Blanks that are passed over whole. -/
def Gap (gap : List UInt8) : Prop:=∀ r,skipN false (gap ++ r) = gap.length + skipN false r
theorem awk_spaced (l gap : List UInt8) : ∀ (us : List TkA) (a : Nat),a ≤ l.length → Awk (l.drop a) → Run l a us → Awk (spaced l gap us)
  | [],_,_,_,_ => rfl
  | u :: us,a,hal,hw,h => by
   obtain ⟨h1,ha,e,ht,h2⟩:=h
   have he:=tokL_end ha ht
   have hs:=skipTo_ge l e
   have hsl:=skipTo_le l e he.2
   have hn:=next_of_run hsl h2
   show Awk (seg l u.2.2.2 (nextAt l us) ++ 10 :: (gap ++ spaced l gap us))
   rw [h1,hn]
   exact awk_cut (Ends.row _) (by omega) (drop_ne ha) hw
theorem run_spaced (l gap : List UInt8) (hg : Gap gap) : ∀ (us : List TkA) (a : Nat) (P : List UInt8),a ≤ l.length → Awk (l.drop a) → Run l a us → Run (P ++ spaced l gap us) P.length (moved l gap.length P.length us)
  | [],_,P,_,_,_ => by
   show (P ++ []).length ≤ P.length
   rw [List.append_nil]; exact Nat.le_refl _
  | u :: us,a,P,hal,hw,h => by
   obtain ⟨h1,ha,e,ht,h2⟩:=h
   have he:=tokL_end ha ht
   have hs:=skipTo_ge l e
   have hsl:=skipTo_le l e he.2
   have hn:=next_of_run hsl h2
   have hlen:=piece_len (l:=l) (a:=a) (b:=skipTo l e) (by omega) hsl
   have hT : P ++ spaced l gap (u :: us) = P ++ (seg l a (skipTo l e) ++ 10 :: (gap ++ spaced l gap us)):=by
    show P ++ (seg l u.2.2.2 (nextAt l us) ++ 10 :: (gap ++ spaced l gap us)) = _
    rw [h1,hn]
   have hM : moved l gap.length P.length (u :: us) = (u.1,u.2.1,u.2.2.1,P.length) :: moved l gap.length (P.length + (skipTo l e - a) + 1 + gap.length) us:=by
    show (u.1,u.2.1,u.2.2.1,P.length) :: moved l gap.length (P.length + (nextAt l us - u.2.2.2) + 1 + gap.length) us = _
    rw [h1,hn]
   rw [hT,hM]
   refine ⟨rfl,?_,P.length + (e - a),?_,?_⟩
   · rw [List.length_append,List.length_append,List.length_cons]; omega
   · rw [tokL_drop,List.drop_left,piece_tok (Ends.row _) ha ht]; rfl
   · have hk : skipTo (P ++ (seg l a (skipTo l e) ++ 10 :: (gap ++ spaced l gap us))) (P.length + (e - a)) = P.length + (skipTo l e - a) + 1 + gap.length:=by
      unfold skipTo
      rw [← List.drop_drop,List.drop_left]
      rw [List.drop_append_of_le_length (by rw [show l.drop e = l.drop e from rfl,show e + skipN false (l.drop e) = skipTo l e from rfl,hlen]; omega)]
      rw [show e + skipN false (l.drop e) = skipTo l e from rfl,piece_drop (by omega) hs]
      have : seg l e (skipTo l e) = (l.drop e).take (skipN false (l.drop e)):=by
       unfold seg skipTo
       rw [Nat.add_sub_cancel_left]
      rw [this,skipN_row,hg,awk_spaced l gap us (skipTo l e) hsl (awk_skip l e) h2]
      unfold skipTo
      omega
     rw [hk]
     have ih:=run_spaced l gap hg us (skipTo l e) (P ++ (seg l a (skipTo l e) ++ 10 :: gap)) hsl (awk_skip l e) h2
     have hPl : (P ++ (seg l a (skipTo l e) ++ 10 :: gap)).length = P.length + (skipTo l e - a) + 1 + gap.length:=by
      rw [List.length_append,List.length_append,List.length_cons,hlen]; omega
     have hPa : P ++ (seg l a (skipTo l e) ++ 10 :: gap) ++ spaced l gap us = P ++ (seg l a (skipTo l e) ++ 10 :: (gap ++ spaced l gap us)):=by
      simp [List.append_assoc]
     rw [hPl,hPa] at ih
     exact ih
/-- The blanks of the law. -/
def gapOf (n : Nat) : List UInt8:=if n % 4 = 0 then [32] else if n % 4 = 1 then [10] else if n % 4 = 2 then [32,47,47,32,114,10] else [9,13,32]
theorem gap_gap (n : Nat) : Gap (gapOf n):=by
 intro r
 unfold gapOf
 by_cases h0 : n % 4 = 0
 · rw [if_pos h0]
   show (if blankP 32 = true then skipN false r + 1 else _) = 1 + skipN false r
   rw [if_pos (by decide)]; omega
 rw [if_neg h0]
 by_cases h1 : n % 4 = 1
 · rw [if_pos h1]
   show (if blankP 10 = true then skipN false r + 1 else _) = 1 + skipN false r
   rw [if_pos (by decide)]; omega
 rw [if_neg h1]
 by_cases h2 : n % 4 = 2
 · rw [if_pos h2]
   simp only [List.cons_append,List.nil_append,List.length_cons,List.length_nil]
   rw [skipN,if_pos (by decide),skipN,if_neg (by decide),if_pos (by rfl),skipN,if_pos (by decide),skipN,if_pos (by decide),skipN,if_pos (by decide),skipN,if_neg (by decide)]
   omega
 · rw [if_neg h2]
   simp only [List.cons_append,List.nil_append,List.length_cons,List.length_nil]
   rw [skipN,if_pos (by decide),skipN,if_pos (by decide),skipN,if_pos (by decide)]
   omega
theorem gap_short (n : Nat) : (gapOf n).length ≤ 6:=by
 unfold gapOf
 by_cases h0 : n % 4 = 0
 · rw [if_pos h0]; decide
 rw [if_neg h0]
 by_cases h1 : n % 4 = 1
 · rw [if_pos h1]; decide
 rw [if_neg h1]
 by_cases h2 : n % 4 = 2
 · rw [if_pos h2]; decide
 · rw [if_neg h2]; decide
theorem scan_spaced {l gap : List UInt8} {ts : List TkA} {m : Nat} (hg : Gap gap) (hl : l.length ≤ 65536) (hn : ts.length ≤ 20000) (h : scanRes l = (ts,m,0)) (hT : (gap ++ spaced l gap ts).length ≤ 65536) :
    scanRes (gap ++ spaced l gap ts) = (moved l gap.length gap.length ts,0,0):=by
  have hr:=run_of_scan hl h
  have ha:=skipTo_le l 0 (Nat.zero_le _)
  refine scan_of_run hT (by rw [moved_length]; exact hn) ?_
  have h0 : skipTo (gap ++ spaced l gap ts) 0 = gap.length:=by
   unfold skipTo
   rw [List.drop_zero,hg,awk_spaced l gap ts _ ha (awk_skip l 0) hr]
   omega
  rw [h0]
  exact run_spaced l gap hg ts _ gap ha (awk_skip l 0) hr
/-- What is known of each token: her piece alone. -/
theorem run_piece {l : List UInt8} (hl : l.length ≤ 65536) : ∀ (us : List TkA) (a : Nat),a ≤ l.length → Awk (l.drop a) → Run l a us → ∀ i (h : i < us.length),
    us[i].2.2.2 < nextAt l (us.drop (i + 1)) ∧ nextAt l (us.drop (i + 1)) ≤ l.length ∧ scanRes (seg l us[i].2.2.2 (nextAt l (us.drop (i + 1)))) = ([(us[i].1,us[i].2.1,us[i].2.2.1,0)],0,0)
  | [],_,_,_,_,i,hi => absurd hi (by simp)
  | u :: us,a,hal,hw,h,0,_ => by
   obtain ⟨h1,ha,e,ht,h2⟩:=h
   have he:=tokL_end ha ht
   have hs:=skipTo_ge l e
   have hsl:=skipTo_le l e he.2
   have hn:=next_of_run hsl h2
   show u.2.2.2 < nextAt l us ∧ nextAt l us ≤ l.length ∧ scanRes (seg l u.2.2.2 (nextAt l us)) = _
   rw [h1,hn]
   refine ⟨by omega,hsl,?_⟩
   rcases piece_run hw ha ht with h | h
   · exact h
   · omega
  | u :: us,a,hal,hw,h,i + 1,hi => by
   obtain ⟨h1,ha,e,ht,h2⟩:=h
   have he:=tokL_end ha ht
   have hsl:=skipTo_le l e he.2
   exact run_piece hl us (skipTo l e) hsl (awk_skip l e) h2 i (by simpa using hi)
end Go.Proofs.YtffnaknidofobaaGreatDoor
