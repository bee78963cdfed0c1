/- Tokens and blanks are told by their own bytes alone: the plain mathematics of cuts, and where Scan's tokens and faults stand. -/
import Derived.Test.YtffnaknidofobaaGreatDoorTokenJt
namespace Go.Proofs.YtffnaknidofobaaGreatDoor
open Go.RowKit
/-- What may follow a token that was cut off: nothing, or a new row. -/
def Ends (r : List UInt8) : Prop:=∀ c,r.head? = some c → c = 10 ∨ c = 32
theorem Ends.nil : Ends []:=fun _ h => by cases h
theorem Ends.row (r : List UInt8) : Ends (10 :: r):=fun c h => by
 rw [List.head?_cons] at h
 exact .inl (Option.some.inj h).symm
theorem Ends.blank (r : List UInt8) : Ends (32 :: r):=fun c h => by
 rw [List.head?_cons] at h
 exact .inr (Option.some.inj h).symm
theorem Ends.at {p : UInt8 → Bool} {r : List UInt8} (h : Ends r) (hp : p 10 = false ∧ p 32 = false) : atP p r 0 = false:=by
 cases r with
 | nil => rfl
 | cons c r' =>
  rcases h c rfl with e | e
  · subst e; exact hp.1
  · subst e; exact hp.2
theorem Ends.takeWhile {p : UInt8 → Bool} {r : List UInt8} (h : Ends r) (hp : p 10 = false ∧ p 32 = false) : r.takeWhile p = []:=by
 cases r with
 | nil => rfl
 | cons c r' =>
  rcases h c rfl with e | e
  · subst e; simp [hp.1]
  · subst e; simp [hp.2]
theorem Ends.dropWhile {p : UInt8 → Bool} {r : List UInt8} (h : Ends r) (hp : p 10 = false ∧ p 32 = false) : r.dropWhile p = r:=by
 cases r with
 | nil => rfl
 | cons c r' =>
  rcases h c rfl with e | e
  · subst e; simp [hp.1]
  · subst e; simp [hp.2]
theorem tw_cut {p : UInt8 → Bool} {r : List UInt8} (hr : Ends r) (hp : p 10 = false ∧ p 32 = false) : ∀ (y : List UInt8) (m : Nat),(y.takeWhile p).length ≤ m → (y.take m ++ r).takeWhile p = y.takeWhile p
  | [],m,_ => by rw [List.take_nil,List.nil_append,hr.takeWhile hp]; rfl
  | c :: y,0,h => by
   by_cases hc : p c = true
   · rw [List.takeWhile_cons_of_pos hc] at h
     simp at h
   · rw [List.take_zero,List.nil_append,hr.takeWhile hp,List.takeWhile_cons_of_neg hc]
  | c :: y,m + 1,h => by
   rw [List.take_succ_cons,List.cons_append]
   by_cases hc : p c = true
   · rw [List.takeWhile_cons_of_pos hc] at h ⊢
     rw [List.takeWhile_cons_of_pos hc,tw_cut hr hp y m (by simpa using h)]
   · rw [List.takeWhile_cons_of_neg hc,List.takeWhile_cons_of_neg hc]
theorem dw_cut {p q : UInt8 → Bool} {r : List UInt8} (hr : Ends r) (hp : p 10 = false ∧ p 32 = false) (hq : q 10 = false ∧ q 32 = false) : ∀ (y : List UInt8) (m : Nat),(y.takeWhile p).length ≤ m → atP q (y.dropWhile p) 0 = false → atP q ((y.take m ++ r).dropWhile p) 0 = false
  | [],m,_,_ => by rw [List.take_nil,List.nil_append,hr.dropWhile hp]; exact hr.at hq
  | c :: y,0,h,_ => by
   by_cases hc : p c = true
   · rw [List.takeWhile_cons_of_pos hc] at h
     simp at h
   · rw [List.take_zero,List.nil_append,hr.dropWhile hp]; exact hr.at hq
  | c :: y,m + 1,h,h2 => by
   rw [List.take_succ_cons,List.cons_append]
   by_cases hc : p c = true
   · rw [List.takeWhile_cons_of_pos hc] at h
     rw [List.dropWhile_cons_of_pos hc] at h2 ⊢
     exact dw_cut hr hp hq y m (by simpa using h) h2
   · rw [List.dropWhile_cons_of_neg hc] at h2 ⊢
     exact h2
theorem endOf_zero (p : UInt8 → Bool) (y : List UInt8) : endOf p y 0 = (y.takeWhile p).length:=by
 unfold endOf
 rw [List.drop_zero,Nat.zero_add]
theorem seg_zero (y : List UInt8) (e : Nat) : seg y 0 e = y.take e:=by
 unfold seg
 rw [List.drop_zero,Nat.sub_zero]
theorem endOf_drop (p : UInt8 → Bool) (l : List UInt8) (k : Nat) : endOf p l k = k + endOf p (l.drop k) 0:=by
 rw [endOf_zero]; rfl
theorem seg_drop (l : List UInt8) (k e : Nat) : seg l k (k + e) = seg (l.drop k) 0 e:=by
 rw [seg_zero]
 unfold seg
 rw [Nat.add_sub_cancel_left]
/-- A token told from another place. -/
def shT (k : Nat) : Option Tok → Option Tok
  | some (kd,t,n,e) => some (kd,t,n,k + e)
  | none => none
theorem nameL_drop (l : List UInt8) (k : Nat) : nameL l k = shT k (nameL (l.drop k) 0):=by
 unfold nameL
 rw [endOf_drop innerP l k,seg_drop,Nat.add_sub_cancel_left,Nat.sub_zero]
 by_cases h : 64 < endOf innerP (l.drop k) 0
 · rw [if_pos h,if_pos h]; rfl
 · rw [if_neg h,if_neg h]; rfl
theorem numL_drop (l : List UInt8) (k : Nat) : numL l k = shT k (numL (l.drop k) 0):=by
 unfold numL
 rw [endOf_drop digitP l k,seg_drop]
 have h0 : (l.drop k)[0]? = l[k]?:=by rw [List.getElem?_drop]; rfl
 have h1 : atP firstP (l.drop k) (endOf digitP (l.drop k) 0) = atP firstP l (k + endOf digitP (l.drop k) 0):=by
  unfold atP
  rw [List.getElem?_drop]
 rw [h0,h1]
 by_cases hA : l[k]? = some 48 ∧ k + 1 < k + endOf digitP (l.drop k) 0
 · rw [if_pos hA,if_pos ⟨hA.1,by omega⟩]; rfl
 · have hA' : ¬ (l[k]? = some 48 ∧ 0 + 1 < endOf digitP (l.drop k) 0):=fun h => hA ⟨h.1,by omega⟩
   rw [if_neg hA,if_neg hA']
   by_cases hB : atP firstP l (k + endOf digitP (l.drop k) 0) = true
   · rw [if_pos hB,if_pos hB]; rfl
   · rw [if_neg hB,if_neg hB]
     by_cases hC : 9223372036854775808 ≤ numOf (seg (l.drop k) 0 (endOf digitP (l.drop k) 0))
     · rw [if_pos hC,if_pos hC]; rfl
     · rw [if_neg hC,if_neg hC]; rfl
theorem textL_drop (l : List UInt8) (k : Nat) : textL l k = shT k (textL (l.drop k) 0):=by
 unfold textL textRes
 rw [List.drop_drop,Nat.zero_add]
 cases strL (l.drop (k + 1)) with
 | none => rfl
 | some x =>
  obtain ⟨t,n⟩:=x
  by_cases h : t.length ≤ 1024
  · simp only [if_pos h,shT,Option.some.injEq,Prod.mk.injEq,true_and]; omega
  · simp only [if_neg h,shT]
theorem markL_drop (l : List UInt8) (k : Nat) : markL l k = shT k (markL (l.drop k) 0):=by
 unfold markL
 rw [seg_drop l k 2,seg_drop l k 1,atP_drop]
 have hlen:=List.length_drop (i:=k) (l:=l)
 by_cases hA : k + 2 ≤ l.length ∧ pairP (seg (l.drop k) 0 2) = true
 · have hA' : 0 + 2 ≤ (l.drop k).length ∧ pairP (seg (l.drop k) 0 (0 + 2)) = true:=⟨by omega,hA.2⟩
   rw [if_pos hA,if_pos hA']; rfl
 · have hA' : ¬ (0 + 2 ≤ (l.drop k).length ∧ pairP (seg (l.drop k) 0 (0 + 2)) = true):=fun h => hA ⟨by omega,h.2⟩
   rw [if_neg hA,if_neg hA']
   by_cases hB : atP singleP l k = true
   · rw [if_pos hB,if_pos hB]; rfl
   · rw [if_neg hB,if_neg hB]; rfl
theorem tokL_drop (l : List UInt8) (k : Nat) : tokL l k = shT k (tokL (l.drop k) 0):=by
 unfold tokL
 rw [atP_drop,atP_drop,atP_drop,nameL_drop,numL_drop l,textL_drop l,markL_drop l]
 by_cases h1 : atP firstP l k = true
 · rw [if_pos h1,if_pos h1]
 · rw [if_neg h1,if_neg h1]
   by_cases h2 : atP digitP l k = true
   · rw [if_pos h2,if_pos h2]
   · rw [if_neg h2,if_neg h2]
     by_cases h3 : atP quoteP l k = true
     · rw [if_pos h3,if_pos h3]
     · rw [if_neg h3,if_neg h3]
theorem escL_cut {y : List UInt8} {b : UInt8} {n m : Nat} (r : List UInt8) (h : escL y = some (b,n)) (hm : n ≤ m) : escL (y.take m ++ r) = some (b,n):=by
 have hl:=escL_len y b n h
 match y,h,hl with
 | c :: d :: y',h,hl =>
  obtain ⟨m,rfl⟩ : ∃ m',m = m' + 2:=⟨m - 2,by omega⟩
  rw [List.take_succ_cons,List.take_succ_cons,List.cons_append,List.cons_append]
  unfold escL at h ⊢
  dsimp only at h ⊢
  by_cases h92 : c = 92
  · rw [if_pos h92] at h ⊢
    by_cases h1 : d = 110
    · rw [if_pos h1] at h ⊢; exact h
    · rw [if_neg h1] at h ⊢
      by_cases h2 : d = 116
      · rw [if_pos h2] at h ⊢; exact h
      · rw [if_neg h2] at h ⊢
        by_cases h3 : d = 34 ∨ d = 92
        · rw [if_pos h3] at h ⊢; exact h
        · rw [if_neg h3] at h ⊢
          by_cases h4 : d = 120
          · rw [if_pos h4] at h ⊢
            match y',h,hl with
            | x :: z :: y'',h,hl =>
             dsimp only at h
             cases hx : hexFrom 0 [x,z] with
             | none => rw [hx] at h; cases h
             | some v =>
              rw [hx] at h
              have hn : n = 4:=by cases h; rfl
              obtain ⟨m,rfl⟩ : ∃ m',m = m' + 2:=⟨m - 2,by omega⟩
              rw [List.take_succ_cons,List.take_succ_cons,List.cons_append,List.cons_append]
              dsimp only
              rw [hx]; exact h
          · rw [if_neg h4] at h; cases h
  · rw [if_neg h92] at h; cases h
theorem shiftS_some {out t : List UInt8} {m n : Nat} {o : Option (List UInt8 × Nat)} (h : shiftS out m o = some (t,n)) : ∃ t' n',o = some (t',n') ∧ t = out ++ t' ∧ n = m + n':=by
 cases o with
 | none => cases h
 | some x =>
  obtain ⟨t',n'⟩:=x
  cases h
  exact ⟨t',n',rfl,rfl,rfl⟩
theorem strF_cut (r : List UInt8) : ∀ (f : Nat) (y t : List UInt8) (n m : Nat),strF f y = some (t,n) → n ≤ m → strF f (y.take m ++ r) = some (t,n)
  | 0,_,_,_,_,h,_ => by cases h
  | f + 1,[],_,_,_,h,_ => by cases h
  | f + 1,c :: y,t,n,m,h,hm => by
   have hl:=strF_len _ _ _ _ h
   obtain ⟨m,rfl⟩ : ∃ m',m = m' + 1:=⟨m - 1,by omega⟩
   rw [List.take_succ_cons,List.cons_append]
   unfold strF at h ⊢
   by_cases hq : quoteP c = true
   · rw [if_pos hq] at h ⊢; exact h
   · rw [if_neg hq] at h ⊢
     by_cases hp : plainP c = true
     · rw [if_pos hp] at h ⊢
       obtain ⟨t',n',h1,h2,h3⟩:=shiftS_some h
       rw [strF_cut r f y t' n' m h1 (by omega),h2,h3]; rfl
     · rw [if_neg hp] at h ⊢
       cases he : escL (c :: y) with
       | none => rw [he] at h; cases h
       | some x =>
        obtain ⟨b,k⟩:=x
        rw [he] at h
        dsimp only at h
        obtain ⟨t',n',h1,h2,h3⟩:=shiftS_some h
        have hl2:=escL_len _ _ _ he
        have hc:=escL_cut r he (m:=m + 1) (by omega)
        rw [List.take_succ_cons,List.cons_append] at hc
        rw [hc]
        dsimp only
        have hd : (c :: (y.take m ++ r)).drop k = ((c :: y).drop k).take (m + 1 - k) ++ r:=by
         rw [← List.cons_append,← List.take_succ_cons,List.drop_append_of_le_length (by rw [List.length_take]; omega),List.drop_take]
        rw [hd,strF_cut r f _ t' n' (m + 1 - k) h1 (by omega),h2,h3]; rfl
theorem strL_cut {y t : List UInt8} {n m : Nat} (r : List UInt8) (h : strL y = some (t,n)) (hm : n ≤ m) : strL (y.take m ++ r) = some (t,n):=by
 unfold strL at h ⊢
 rw [strF_fuel y.length y (Nat.le_refl _) (y.length + (y.take m ++ r).length) (by omega)] at h
 rw [strF_fuel (y.take m ++ r).length _ (Nat.le_refl _) (y.length + (y.take m ++ r).length) (by omega)]
 exact strF_cut r _ _ _ _ _ h hm
theorem pair_row : ∀ c : UInt8,pairP [c,10] = false:=byte_all (by decide +kernel)
theorem pair_blank : ∀ c : UInt8,pairP [c,32] = false:=byte_all (by decide +kernel)
theorem nameL_cut {y : List UInt8} {kd : Int} {t : List UInt8} {n : Int} {e m : Nat} {r : List UInt8} (hr : Ends r) (h : nameL y 0 = some (kd,t,n,e)) (hm : e ≤ m) : nameL (y.take m ++ r) 0 = some (kd,t,n,e):=by
 unfold nameL at h ⊢
 rw [seg_takeWhile,List.drop_zero,endOf_zero] at h ⊢
 by_cases h1 : 64 < (y.takeWhile innerP).length - 0
 · rw [if_pos h1] at h; cases h
 · rw [if_neg h1] at h
   have he : (y.takeWhile innerP).length = e:=by injection h with h; injection h with _ h; injection h with _ h; injection h
   rw [tw_cut hr (by decide) y m (by omega),if_neg h1]
   exact h
theorem numL_cut {y : List UInt8} {kd : Int} {t : List UInt8} {n : Int} {e m : Nat} {r : List UInt8} (hr : Ends r) (hm1 : 1 ≤ m) (hy : y ≠ []) (h : numL y 0 = some (kd,t,n,e)) (hm : e ≤ m) : numL (y.take m ++ r) 0 = some (kd,t,n,e):=by
 have h0 : (y.take m ++ r)[0]? = y[0]?:=by
  match y,m,hy,hm1 with
  | c :: y',m' + 1,_,_ => rfl
 unfold numL at h ⊢
 rw [seg_takeWhile,List.drop_zero] at h ⊢
 rw [← atP_drop firstP,drop_endOf,List.drop_zero,endOf_zero] at h ⊢
 rw [h0]
 by_cases h1 : y[0]? = some 48 ∧ 0 + 1 < (y.takeWhile digitP).length
 · rw [if_pos h1] at h; cases h
 · rw [if_neg h1] at h
   by_cases h2 : atP firstP (y.dropWhile digitP) 0 = true
   · rw [if_pos h2] at h; cases h
   · rw [if_neg h2] at h
     by_cases h3 : 9223372036854775808 ≤ numOf (y.takeWhile digitP)
     · rw [if_pos h3] at h; cases h
     · rw [if_neg h3] at h
       have he : (y.takeWhile digitP).length = e:=by injection h with h; injection h with _ h; injection h with _ h; injection h
       have h2':=dw_cut hr (p:=digitP) (q:=firstP) (by decide) (by decide) y m (by omega) (by simpa using h2)
       rw [tw_cut hr (by decide) y m (by omega),if_neg h1,h2',if_neg (by decide),if_neg h3]
       exact h
theorem textL_cut {y : List UInt8} {kd : Int} {t : List UInt8} {n : Int} {e m : Nat} {r : List UInt8} (hy : y ≠ []) (h : textL y 0 = some (kd,t,n,e)) (hm : e ≤ m) : textL (y.take m ++ r) 0 = some (kd,t,n,e):=by
 match y,hy with
 | c :: y',_ =>
  unfold textL textRes at h ⊢
  rw [Nat.zero_add,List.drop_one,List.tail_cons] at h
  cases hs : strL y' with
  | none => rw [hs] at h; cases h
  | some x =>
   obtain ⟨u,j⟩:=x
   rw [hs] at h
   by_cases hu : u.length ≤ 1024
   · simp only [if_pos hu] at h
     have he : 1 + j = e:=by injection h with h; injection h with _ h; injection h with _ h; injection h
     obtain ⟨m,rfl⟩ : ∃ m',m = m' + 1:=⟨m - 1,by omega⟩
     rw [List.take_succ_cons,List.cons_append,Nat.zero_add,List.drop_one,List.tail_cons,strL_cut r hs (by omega)]
     simp only [if_pos hu]
     exact h
   · simp only [if_neg hu] at h; cases h
theorem markL_cut {y : List UInt8} {kd : Int} {t : List UInt8} {n : Int} {e m : Nat} {r : List UInt8} (hr : Ends r) (hm1 : 1 ≤ m) (hy : y ≠ []) (h : markL y 0 = some (kd,t,n,e)) (hm : e ≤ m) : markL (y.take m ++ r) 0 = some (kd,t,n,e):=by
 unfold markL at h ⊢
 rw [seg_zero,seg_zero,Nat.zero_add] at h ⊢
 match y,m,hy,hm1 with
 | c :: y',m + 1,_,_ =>
  rw [List.take_succ_cons,List.cons_append]
  by_cases h1 : 2 ≤ (c :: y').length ∧ pairP ((c :: y').take 2) = true
  · rw [if_pos h1] at h
    have he : 2 = e:=by injection h with h; injection h with _ h; injection h with _ h; injection h
    obtain ⟨m,rfl⟩ : ∃ m',m = m' + 1:=⟨m - 1,by omega⟩
    match y',h1,h with
    | d :: y'',h1,h =>
     rw [List.take_succ_cons,List.cons_append]
     have h2 : 2 ≤ (c :: d :: (y''.take m ++ r)).length ∧ pairP ((c :: d :: (y''.take m ++ r)).take 2) = true:=⟨by simp,h1.2⟩
     rw [if_pos h2]; exact h
  · rw [if_neg h1] at h
    have h2 : ¬ (2 ≤ (c :: (y'.take m ++ r)).length ∧ pairP ((c :: (y'.take m ++ r)).take 2) = true):=by
     rintro ⟨ha,hb⟩
     cases y' with
     | nil =>
      rw [List.take_nil,List.nil_append] at ha hb
      cases r with
      | nil => simp at ha
      | cons d r' =>
       rcases hr d rfl with e | e
       · subst e
         have hb' : pairP [c,10] = true:=hb
         rw [pair_row] at hb'; cases hb'
       · subst e
         have hb' : pairP [c,32] = true:=hb
         rw [pair_blank] at hb'; cases hb'
     | cons d y'' =>
      cases m with
      | zero =>
       rw [List.take_zero,List.nil_append] at ha hb
       cases r with
       | nil => simp at ha
       | cons d r' =>
        rcases hr d rfl with e | e
        · subst e
          have hb' : pairP [c,10] = true:=hb
          rw [pair_row] at hb'; cases hb'
        · subst e
          have hb' : pairP [c,32] = true:=hb
          rw [pair_blank] at hb'; cases hb'
      | succ m => exact h1 ⟨by simp,hb⟩
    rw [if_neg h2]
    exact h
theorem tokL_cut {y : List UInt8} {kd : Int} {t : List UInt8} {n : Int} {e m : Nat} {r : List UInt8} (hr : Ends r) (hy : y ≠ []) (h : tokL y 0 = some (kd,t,n,e)) (hm : e ≤ m) : tokL (y.take m ++ r) 0 = some (kd,t,n,e):=by
 have hl:=tokL_end (List.length_pos_iff.2 hy) h
 have hm1 : 1 ≤ m:=by omega
 have hat : ∀ p,atP p (y.take m ++ r) 0 = atP p y 0:=by
  intro p
  match y,m,hy,hm1 with
  | c :: y',m' + 1,_,_ => rfl
 unfold tokL at h ⊢
 rw [hat,hat,hat]
 by_cases h1 : atP firstP y 0 = true
 · rw [if_pos h1] at h ⊢; exact nameL_cut hr h hm
 · rw [if_neg h1] at h ⊢
   by_cases h2 : atP digitP y 0 = true
   · rw [if_pos h2] at h ⊢; exact numL_cut hr hm1 hy h hm
   · rw [if_neg h2] at h ⊢
     by_cases h3 : atP quoteP y 0 = true
     · rw [if_pos h3] at h ⊢; exact textL_cut hy h hm
     · rw [if_neg h3] at h ⊢; exact markL_cut hr hm1 hy h hm
theorem skipN_cut : ∀ (x : List UInt8) (b : Bool) (n : Nat),skipN b x ≤ n → skipN b (x.take n) = skipN b x
  | [],_,_,_ => by rw [List.take_nil]
  | c :: x,true,0,h => by
   unfold skipN at h
   by_cases hc : remarkP c = true
   · rw [if_pos hc] at h; omega
   · rw [if_neg hc] at h; omega
  | c :: x,true,n + 1,h => by
   rw [List.take_succ_cons]
   unfold skipN at h ⊢
   by_cases hc : remarkP c = true
   · rw [if_pos hc] at h
     rw [if_pos hc,if_pos hc,skipN_cut x true n (by omega)]
   · rw [if_neg hc] at h
     rw [if_neg hc,if_neg hc,skipN_cut x false n (by omega)]
  | c :: x,false,0,h => by
   rw [List.take_zero]
   show 0 = _
   omega
  | c :: x,false,n + 1,h => by
   rw [List.take_succ_cons]
   unfold skipN at h ⊢
   by_cases hc : blankP c = true
   · rw [if_pos hc] at h
     rw [if_pos hc,if_pos hc,skipN_cut x false n (by omega)]
   · rw [if_neg hc] at h
     rw [if_neg hc,if_neg hc]
     by_cases h2 : (c == 47 && x.head? == some 47) = true
     · rw [if_pos h2] at h
       rw [if_pos h2]
       have hx : skipN true x ≤ n:=by omega
       have h3 : (c == 47 && (x.take n).head? == some 47) = true:=by
        cases x with
        | nil => rw [List.take_nil]; exact h2
        | cons d x' =>
         cases n with
         | zero =>
          have : 0 < skipN true (d :: x'):=by
           unfold skipN
           by_cases hd : remarkP d = true
           · rw [if_pos hd]; omega
           · rw [if_neg hd]; omega
          omega
         | succ n => exact h2
       rw [if_pos h3,skipN_cut x true n hx]
     · rw [if_neg h2]
       have h3 : ¬ (c == 47 && (x.take n).head? == some 47) = true:=by
        intro h3
        apply h2
        cases x with
        | nil => rw [List.take_nil] at h3; exact h3
        | cons d x' =>
         cases n with
         | zero => simp at h3
         | succ n => exact h3
       rw [if_neg h3]
theorem tokL_take {l : List UInt8} {a m : Nat} {kd : Int} {t : List UInt8} {n : Int} {e : Nat} (ha : a < l.length) (h : tokL l a = some (kd,t,n,e)) (hm : e ≤ m) : tokL (l.take m) a = some (kd,t,n,e):=by
 have hl:=tokL_end ha h
 rw [tokL_drop] at h ⊢
 rw [List.drop_take]
 cases hy : tokL (l.drop a) 0 with
 | none => rw [hy] at h; cases h
 | some x =>
  obtain ⟨kd',t',n',e'⟩:=x
  rw [hy] at h
  have he : a + e' = e:=by injection h with h; injection h with _ h; injection h with _ h; injection h
  have hc:=tokL_cut (m:=m - a) Ends.nil (fun h0 => by have:=congrArg List.length h0; rw [List.length_drop] at this; simp at this; omega) hy (by omega)
  rw [List.append_nil] at hc
  rw [hc]; exact h
theorem skipTo_take {l : List UInt8} {k m : Nat} (h : skipTo l k ≤ m) : skipTo (l.take m) k = skipTo l k:=by
 unfold skipTo at h ⊢
 rw [List.drop_take,skipN_cut _ _ _ (by omega)]
/-- Ahead of a fault's place there are only tokens. -/
theorem scanF_ahead (l : List UInt8) (m : Nat) : ∀ (f a : Nat) (acc : List TkA),scanF l f a acc = ([],m,3) → a ≤ m ∧ m < l.length ∧ ∀ g,m - a < g → (scanF (l.take m) g a acc).2.2 = 0
  | 0,a,acc,h => by cases h
  | f + 1,a,acc,h => by
   by_cases ha : a < l.length
   · by_cases hl : acc.length = 20000
     · rw [scanF_large (Nat.succ_pos _) ha hl] at h; cases h
     · cases ht : tokL l a with
       | none =>
        rw [scanF_fault (Nat.succ_pos _) ha hl ht] at h
        have hm : a = m:=by injection h with _ h; injection h
        subst hm
        refine ⟨Nat.le_refl _,ha,fun g hg => ?_⟩
        rw [scanF_end (by omega) (by rw [List.length_take]; omega)]
       | some x =>
        obtain ⟨kd,t,n,e⟩:=x
        rw [scanF_step ha hl ht] at h
        obtain ⟨h1,h2,h3⟩:=scanF_ahead l m f _ _ h
        have he:=tokL_end ha ht
        have hs:=skipTo_ge l e
        refine ⟨by omega,h2,fun g hg => ?_⟩
        obtain ⟨g,rfl⟩ : ∃ g',g = g' + 1:=⟨g - 1,by omega⟩
        rw [scanF_step (by rw [List.length_take]; omega) hl (tokL_take ha ht (by omega)),skipTo_take h1]
        exact h3 g (by omega)
   · rw [scanF_end (Nat.succ_pos _) ha] at h; cases h
theorem scanRes_ahead {l : List UInt8} {ts : List TkA} {m : Nat} (h : scanRes l = (ts,m,3)) (hts : ts = []) : m < l.length ∧ (scanRes (l.take m)).2.2 = 0:=by
 subst hts
 unfold scanRes at h
 by_cases hl : 65536 < l.length
 · rw [if_pos hl] at h; cases h
 · rw [if_neg hl] at h
   obtain ⟨h1,h2,h3⟩:=scanF_ahead l m _ _ _ h
   refine ⟨h2,?_⟩
   unfold scanRes
   rw [if_neg (by rw [List.length_take]; omega),skipTo_take h1]
   exact h3 _ (by rw [List.length_take]; omega)
/-- What Scan's answer keeps to. -/
structure Placed (l : List UInt8) (r : List TkA × Nat × Int) : Prop where
  order : r.1.Pairwise (fun x y => x.2.2.2 < y.2.2.2)
  within : ∀ t ∈ r.1,t.2.2.2 < l.length
  few : r.1.length ≤ 20000
  ends : (r.2.1 = 0 ∧ r.2.2 = 0) ∨ (r.1 = [] ∧ r.2.1 < l.length ∧ (r.2.2 = 4 ∨ r.2.2 = 3)) ∨ (r.1 = [] ∧ r.2.1 = 0 ∧ r.2.2 = 13)
theorem scanF_placed (l : List UInt8) : ∀ (f a : Nat) (acc : List TkA),acc.Pairwise (fun x y => x.2.2.2 < y.2.2.2) → (∀ t ∈ acc,t.2.2.2 < l.length ∧ t.2.2.2 < a) → acc.length ≤ 20000 → Placed l (scanF l f a acc)
  | 0,a,acc,h1,h2,h3 => ⟨h1,fun t ht => (h2 t ht).1,h3,Or.inl ⟨rfl,rfl⟩⟩
  | f + 1,a,acc,h1,h2,h3 => by
   by_cases ha : a < l.length
   · by_cases hl : acc.length = 20000
     · rw [scanF_large (Nat.succ_pos _) ha hl]
       exact ⟨List.Pairwise.nil,fun t ht => absurd ht List.not_mem_nil,Nat.zero_le _,Or.inr (Or.inl ⟨rfl,ha,Or.inl rfl⟩)⟩
     · cases ht : tokL l a with
       | none =>
        rw [scanF_fault (Nat.succ_pos _) ha hl ht]
        exact ⟨List.Pairwise.nil,fun t ht => absurd ht List.not_mem_nil,Nat.zero_le _,Or.inr (Or.inl ⟨rfl,ha,Or.inr rfl⟩)⟩
       | some x =>
        obtain ⟨kd,t,n,e⟩:=x
        rw [scanF_step ha hl ht]
        have he:=tokL_end ha ht
        have hs:=skipTo_ge l e
        refine scanF_placed l f _ _ ?_ ?_ ?_
        · rw [List.pairwise_append]
          refine ⟨h1,List.pairwise_singleton _ _,fun x hx y hy => ?_⟩
          rw [List.mem_singleton] at hy
          subst hy
          exact (h2 x hx).2
        · intro x hx
          rw [List.mem_append,List.mem_singleton] at hx
          rcases hx with hx | hx
          · exact ⟨(h2 x hx).1,by have:=(h2 x hx).2; omega⟩
          · subst hx
            exact ⟨ha,by show a < _; omega⟩
        · rw [List.length_append,List.length_singleton]; omega
   · rw [scanF_end (Nat.succ_pos _) ha]
     exact ⟨h1,fun t ht => (h2 t ht).1,h3,Or.inl ⟨rfl,rfl⟩⟩
theorem scanRes_placed (l : List UInt8) : Placed l (scanRes l):=by
 unfold scanRes
 by_cases hl : 65536 < l.length
 · rw [if_pos hl]
   exact ⟨List.Pairwise.nil,fun t ht => absurd ht List.not_mem_nil,Nat.zero_le _,Or.inr (Or.inr ⟨rfl,rfl,rfl⟩)⟩
 · rw [if_neg hl]
   exact scanF_placed l _ _ _ List.Pairwise.nil (fun t ht => absurd ht List.not_mem_nil) (Nat.zero_le _)
end Go.Proofs.YtffnaknidofobaaGreatDoor

namespace Go.Proofs.YtffnaknidofobaaGreatDoor
open Go.RowKit
/-- From a place on the text is just these tokens, to its end. -/
def Run (l : List UInt8) : Nat → List TkA → Prop
  | a,[] => l.length ≤ a
  | a,u :: us => u.2.2.2 = a ∧ a < l.length ∧ ∃ e,tokL l a = some (u.1,u.2.1,u.2.2.1,e) ∧ Run l (skipTo l e) us
theorem run_of_scanF (l : List UInt8) : ∀ (f a : Nat) (acc ts : List TkA) (m : Nat),l.length - a < f → scanF l f a acc = (ts,m,0) → ∃ us,ts = acc ++ us ∧ Run l a us
  | 0,a,acc,ts,m,hf,h => by omega
  | f + 1,a,acc,ts,m,hf,h => by
   by_cases ha : a < l.length
   · by_cases hl : acc.length = 20000
     · rw [scanF_large (Nat.succ_pos _) ha hl] at h; cases h
     · cases ht : tokL l a with
       | none => rw [scanF_fault (Nat.succ_pos _) ha hl ht] at h; cases h
       | some x =>
        obtain ⟨kd,t,n,e⟩:=x
        rw [scanF_step ha hl ht] at h
        have he:=tokL_end ha ht
        have hs:=skipTo_ge l e
        obtain ⟨us,h1,h2⟩:=run_of_scanF l f _ _ ts m (by omega) h
        refine ⟨(kd,t,n,a) :: us,?_,rfl,ha,e,ht,h2⟩
        rw [h1,List.append_assoc]; rfl
   · rw [scanF_end (Nat.succ_pos _) ha] at h
     refine ⟨[],?_,by show l.length ≤ a; omega⟩
     rw [List.append_nil]
     injection h with h _
     exact h.symm
theorem scanF_of_run (l : List UInt8) : ∀ (us : List TkA) (f a : Nat) (acc : List TkA),l.length - a < f → acc.length + us.length ≤ 20000 → Run l a us → scanF l f a acc = (acc ++ us,0,0)
  | [],f,a,acc,hf,_,h => by
   have h' : l.length ≤ a:=h
   rw [scanF_end (by omega) (by omega),List.append_nil]
  | u :: us,f,a,acc,hf,hc,h => by
   obtain ⟨h1,ha,e,ht,h2⟩:=h
   obtain ⟨kd,t,n,a'⟩:=u
   dsimp only at h1 ht
   subst h1
   obtain ⟨f,rfl⟩ : ∃ g,f = g + 1:=⟨f - 1,by omega⟩
   have he:=tokL_end ha ht
   have hs:=skipTo_ge l e
   rw [List.length_cons] at hc
   rw [scanF_step ha (by omega) ht,scanF_of_run l us f _ _ (by omega) (by rw [List.length_append,List.length_singleton]; omega) h2,List.append_assoc]
   rfl
theorem run_of_scan {l : List UInt8} {ts : List TkA} {m : Nat} (hl : l.length ≤ 65536) (h : scanRes l = (ts,m,0)) : Run l (skipTo l 0) ts:=by
 unfold scanRes at h
 rw [if_neg (by omega)] at h
 obtain ⟨us,h1,h2⟩:=run_of_scanF l _ _ _ _ _ (by omega) h
 rw [List.nil_append] at h1
 rw [h1]; exact h2
theorem scan_of_run {l : List UInt8} {ts : List TkA} (hl : l.length ≤ 65536) (hn : ts.length ≤ 20000) (h : Run l (skipTo l 0) ts) : scanRes l = (ts,0,0):=by
 unfold scanRes
 rw [if_neg (by omega),scanF_of_run l ts _ _ _ (by omega) (by simpa using hn) h,List.nil_append]
/-- A place where no blank and no remark begins. -/
def Awk (y : List UInt8) : Prop:=skipN false y = 0
theorem awk_drop : ∀ (x : List UInt8) (b : Bool),Awk (x.drop (skipN b x))
  | [],b => by
   unfold Awk
   rw [List.drop_nil]
   rfl
  | c :: x,true => by
   by_cases hc : remarkP c = true
   · have h : skipN true (c :: x) = skipN true x + 1:=by show (if remarkP c = true then _ else _) = _; rw [if_pos hc]
     rw [h,List.drop_succ_cons]
     exact awk_drop x true
   · have h : skipN true (c :: x) = skipN false x + 1:=by show (if remarkP c = true then _ else _) = _; rw [if_neg hc]
     rw [h,List.drop_succ_cons]
     exact awk_drop x false
  | c :: x,false => by
   by_cases hc : blankP c = true
   · have h : skipN false (c :: x) = skipN false x + 1:=by show (if blankP c = true then _ else _) = _; rw [if_pos hc]
     rw [h,List.drop_succ_cons]
     exact awk_drop x false
   · by_cases h2 : (c == 47 && x.head? == some 47) = true
     · have h : skipN false (c :: x) = skipN true x + 1:=by show (if blankP c = true then _ else if (c == 47 && x.head? == some 47) = true then _ else _) = _; rw [if_neg hc,if_pos h2]
       rw [h,List.drop_succ_cons]
       exact awk_drop x true
     · have h : skipN false (c :: x) = 0:=by show (if blankP c = true then _ else if (c == 47 && x.head? == some 47) = true then _ else _) = _; rw [if_neg hc,if_neg h2]
       rw [h,List.drop_zero]
       exact h
theorem awk_skip (l : List UInt8) (k : Nat) : Awk (l.drop (skipTo l k)):=by
 unfold skipTo
 rw [← List.drop_drop]
 exact awk_drop _ _
theorem awk_cut {y r : List UInt8} {m : Nat} (hr : Ends r) (hm : 1 ≤ m) (hy : y ≠ []) (h : Awk y) : Awk (y.take m ++ r):=by
 match y,m,hy,hm with
 | c :: x,m + 1,_,_ =>
  rw [List.take_succ_cons,List.cons_append]
  by_cases hc : blankP c = true
  · have h' : (if blankP c = true then skipN false x + 1 else if (c == 47 && x.head? == some 47) = true then skipN true x + 1 else 0) = 0:=h
    rw [if_pos hc] at h'; omega
  · have h2 : ¬ (c == 47 && x.head? == some 47) = true:=by
     intro h2
     have h' : (if blankP c = true then skipN false x + 1 else if (c == 47 && x.head? == some 47) = true then skipN true x + 1 else 0) = 0:=h
     rw [if_neg hc,if_pos h2] at h'; omega
    have h3 : ¬ (c == 47 && (x.take m ++ r).head? == some 47) = true:=by
     intro h3
     rw [Bool.and_eq_true,beq_iff_eq,beq_iff_eq] at h3 h2
     have hrn : ¬ r.head? = some 47:=fun h => absurd (hr 47 h) (by decide)
     match x,m,h2,h3 with
     | [],m,_,h3 => rw [List.take_nil,List.nil_append] at h3; exact hrn h3.2
     | d :: x',0,_,h3 => rw [List.take_zero,List.nil_append] at h3; exact hrn h3.2
     | d :: x',m + 1,h2,h3 => exact h2 h3
    show (if blankP c = true then _ else if (c == 47 && (x.take m ++ r).head? == some 47) = true then _ else _) = _
    rw [if_neg hc,if_neg h3]
theorem skipN_row : ∀ (x : List UInt8) (b : Bool) (r : List UInt8),skipN b (x.take (skipN b x) ++ 10 :: r) = skipN b x + 1 + skipN false r
  | [],true,r => by
   show skipN true (10 :: r) = 0 + 1 + skipN false r
   show (if remarkP 10 = true then skipN true r + 1 else skipN false r + 1) = _
   rw [if_neg (by decide)]; omega
  | [],false,r => by
   show skipN false (10 :: r) = 0 + 1 + skipN false r
   show (if blankP 10 = true then skipN false r + 1 else _) = _
   rw [if_pos (by decide)]; omega
  | c :: x,true,r => by
   by_cases hc : remarkP c = true
   · have h : skipN true (c :: x) = skipN true x + 1:=by show (if remarkP c = true then _ else _) = _; rw [if_pos hc]
     rw [h,List.take_succ_cons,List.cons_append]
     show (if remarkP c = true then skipN true (x.take (skipN true x) ++ 10 :: r) + 1 else _) = _
     rw [if_pos hc,skipN_row x true r]; omega
   · have h : skipN true (c :: x) = skipN false x + 1:=by show (if remarkP c = true then _ else _) = _; rw [if_neg hc]
     rw [h,List.take_succ_cons,List.cons_append]
     show (if remarkP c = true then _ else skipN false (x.take (skipN false x) ++ 10 :: r) + 1) = _
     rw [if_neg hc,skipN_row x false r]; omega
  | c :: x,false,r => by
   by_cases hc : blankP c = true
   · have h : skipN false (c :: x) = skipN false x + 1:=by show (if blankP c = true then _ else _) = _; rw [if_pos hc]
     rw [h,List.take_succ_cons,List.cons_append]
     show (if blankP c = true then skipN false (x.take (skipN false x) ++ 10 :: r) + 1 else _) = _
     rw [if_pos hc,skipN_row x false r]; omega
   · by_cases h2 : (c == 47 && x.head? == some 47) = true
     · have h : skipN false (c :: x) = skipN true x + 1:=by show (if blankP c = true then _ else if (c == 47 && x.head? == some 47) = true then _ else _) = _; rw [if_neg hc,if_pos h2]
       rw [h,List.take_succ_cons,List.cons_append]
       have h3 : (c == 47 && (x.take (skipN true x) ++ 10 :: r).head? == some 47) = true:=by
        match x,h2 with
        | [],h2 => simp at h2
        | d :: x',h2 =>
         have : 0 < skipN true (d :: x'):=by
          show 0 < (if remarkP d = true then _ else _)
          by_cases hd : remarkP d = true
          · rw [if_pos hd]; omega
          · rw [if_neg hd]; omega
         obtain ⟨j,hj⟩ : ∃ j,skipN true (d :: x') = j + 1:=⟨skipN true (d :: x') - 1,by omega⟩
         rw [hj,List.take_succ_cons,List.cons_append]
         exact h2
       show (if blankP c = true then _ else if (c == 47 && (x.take (skipN true x) ++ 10 :: r).head? == some 47) = true then skipN true (x.take (skipN true x) ++ 10 :: r) + 1 else _) = _
       rw [if_neg hc,if_pos h3,skipN_row x true r]; omega
     · have h : skipN false (c :: x) = 0:=by show (if blankP c = true then _ else if (c == 47 && x.head? == some 47) = true then _ else _) = _; rw [if_neg hc,if_neg h2]
       rw [h,List.take_zero,List.nil_append]
       show (if blankP 10 = true then skipN false r + 1 else _) = _
       rw [if_pos (by decide)]; omega
/-- The next token's place, or the text's end. -/
def nextAt (l : List UInt8) : List TkA → Nat
  | [] => l.length
  | v :: _ => v.2.2.2
theorem next_of_run {l : List UInt8} {a : Nat} {us : List TkA} (ha : a ≤ l.length) (h : Run l a us) : nextAt l us = a:=by
 cases us with
 | nil =>
  have h' : l.length ≤ a:=h
  show l.length = a
  omega
 | cons u us => exact h.1
theorem drop_ne {l : List UInt8} {a : Nat} (h : a < l.length) : l.drop a ≠ []:=fun h0 => by
 have:=congrArg List.length h0
 rw [List.length_drop] at this
 simp at this
 omega
/-- A token's piece, whatever new row follows. -/
theorem piece_tok {l : List UInt8} {a e : Nat} {kd : Int} {t : List UInt8} {n : Int} {r : List UInt8} (hr : Ends r) (ha : a < l.length) (ht : tokL l a = some (kd,t,n,e)) :
    tokL (seg l a (skipTo l e) ++ r) 0 = some (kd,t,n,e - a):=by
  have he:=tokL_end ha ht
  have hs:=skipTo_ge l e
  rw [tokL_drop] at ht
  cases hy : tokL (l.drop a) 0 with
  | none => rw [hy] at ht; cases ht
  | some x =>
   obtain ⟨kd',t',n',e'⟩:=x
   rw [hy] at ht
   injection ht with ht
   injection ht with h1 ht
   injection ht with h2 ht
   injection ht with h3 ht
   subst h1; subst h2; subst h3
   have : e' = e - a:=by omega
   subst this
   exact tokL_cut hr (drop_ne ha) hy (by omega)
theorem piece_len {l : List UInt8} {a b : Nat} (hab : a ≤ b) (hb : b ≤ l.length) : (seg l a b).length = b - a:=by
 unfold seg
 rw [List.length_take,List.length_drop]; omega
theorem piece_drop {l : List UInt8} {a e b : Nat} (hae : a ≤ e) (heb : e ≤ b) : (seg l a b).drop (e - a) = seg l e b:=by
 unfold seg
 rw [List.drop_take,List.drop_drop]
 congr 1
 · omega
 · congr 1; omega
/-- A piece alone is its token. -/
theorem piece_run {l : List UInt8} {a e : Nat} {kd : Int} {t : List UInt8} {n : Int} (hw : Awk (l.drop a)) (ha : a < l.length) (ht : tokL l a = some (kd,t,n,e)) :
    scanRes (seg l a (skipTo l e)) = ([(kd,t,n,0)],0,0) ∨ 65536 < l.length:=by
  by_cases hl : 65536 < l.length
  · exact Or.inr hl
  refine Or.inl ?_
  have he:=tokL_end ha ht
  have hs:=skipTo_ge l e
  have hsl:=skipTo_le l e he.2
  have hlen:=piece_len (l:=l) (a:=a) (b:=skipTo l e) (by omega) hsl
  have h0 : skipTo (seg l a (skipTo l e)) 0 = 0:=by
   have:=awk_cut (m:=skipTo l e - a) Ends.nil (by omega) (drop_ne ha) hw
   rw [List.append_nil] at this
   unfold skipTo at this ⊢
   rw [List.drop_zero,Nat.zero_add]
   exact this
  refine scan_of_run (by omega) (by simp) ?_
  rw [h0]
  refine ⟨rfl,by omega,e - a,?_,?_⟩
  · have:=piece_tok Ends.nil ha ht
    rw [List.append_nil] at this
    exact this
  · show (seg l a (skipTo l e)).length ≤ skipTo (seg l a (skipTo l e)) (e - a)
    rw [hlen]
    have : skipTo (seg l a (skipTo l e)) (e - a) = (e - a) + skipN false (seg l e (skipTo l e)):=by
     show (e - a) + skipN false ((seg l a (skipTo l e)).drop (e - a)) = _
     rw [piece_drop (by omega) hs]
    rw [this]
    have h2 : skipN false (seg l e (skipTo l e)) = skipN false (l.drop e):=skipN_cut _ _ _ (by unfold skipTo; omega)
    rw [h2]
    unfold skipTo
    omega
/-- The text that is laid behind the first blanks: each token's piece, a new row, the blanks again. -/
def spaced (l gap : List UInt8) : List TkA → List UInt8
  | [] => []
  | u :: us => seg l u.2.2.2 (nextAt l us) ++ 10 :: (gap ++ spaced l gap us)
/-- The same tokens, at the places where they stand then. -/
def moved (l : List UInt8) (g : Nat) : Nat → List TkA → List TkA
  | _,[] => []
  | p,u :: us => (u.1,u.2.1,u.2.2.1,p) :: moved l g (p + (nextAt l us - u.2.2.2) + 1 + g) us
theorem moved_length (l : List UInt8) (g : Nat) : ∀ (us : List TkA) (p : Nat),(moved l g p us).length = us.length
  | [],_ => rfl
  | u :: us,p => by
   show (moved l g _ us).length + 1 = us.length + 1
   rw [moved_length l g us]
/-- Blanks that are passed over whole. -/
def Gap (gap : List UInt8) : Prop:=∀ r,skipN false (gap ++ r) = gap.length + skipN false r
theorem awk_spaced (l gap : List UInt8) : ∀ (us : List TkA) (a : Nat),a ≤ l.length → Awk (l.drop a) → Run l a us → Awk (spaced l gap us)
  | [],_,_,_,_ => rfl
  | u :: us,a,hal,hw,h => by
   obtain ⟨h1,ha,e,ht,h2⟩:=h
   have he:=tokL_end ha ht
   have hs:=skipTo_ge l e
   have hsl:=skipTo_le l e he.2
   have hn:=next_of_run hsl h2
   show Awk (seg l u.2.2.2 (nextAt l us) ++ 10 :: (gap ++ spaced l gap us))
   rw [h1,hn]
   exact awk_cut (Ends.row _) (by omega) (drop_ne ha) hw
theorem run_spaced (l gap : List UInt8) (hg : Gap gap) : ∀ (us : List TkA) (a : Nat) (P : List UInt8),a ≤ l.length → Awk (l.drop a) → Run l a us → Run (P ++ spaced l gap us) P.length (moved l gap.length P.length us)
  | [],_,P,_,_,_ => by
   show (P ++ []).length ≤ P.length
   rw [List.append_nil]; exact Nat.le_refl _
  | u :: us,a,P,hal,hw,h => by
   obtain ⟨h1,ha,e,ht,h2⟩:=h
   have he:=tokL_end ha ht
   have hs:=skipTo_ge l e
   have hsl:=skipTo_le l e he.2
   have hn:=next_of_run hsl h2
   have hlen:=piece_len (l:=l) (a:=a) (b:=skipTo l e) (by omega) hsl
   have hT : P ++ spaced l gap (u :: us) = P ++ (seg l a (skipTo l e) ++ 10 :: (gap ++ spaced l gap us)):=by
    show P ++ (seg l u.2.2.2 (nextAt l us) ++ 10 :: (gap ++ spaced l gap us)) = _
    rw [h1,hn]
   have hM : moved l gap.length P.length (u :: us) = (u.1,u.2.1,u.2.2.1,P.length) :: moved l gap.length (P.length + (skipTo l e - a) + 1 + gap.length) us:=by
    show (u.1,u.2.1,u.2.2.1,P.length) :: moved l gap.length (P.length + (nextAt l us - u.2.2.2) + 1 + gap.length) us = _
    rw [h1,hn]
   rw [hT,hM]
   refine ⟨rfl,?_,P.length + (e - a),?_,?_⟩
   · rw [List.length_append,List.length_append,List.length_cons]; omega
   · rw [tokL_drop,List.drop_left,piece_tok (Ends.row _) ha ht]; rfl
   · have hk : skipTo (P ++ (seg l a (skipTo l e) ++ 10 :: (gap ++ spaced l gap us))) (P.length + (e - a)) = P.length + (skipTo l e - a) + 1 + gap.length:=by
      unfold skipTo
      rw [← List.drop_drop,List.drop_left]
      rw [List.drop_append_of_le_length (by rw [show l.drop e = l.drop e from rfl,show e + skipN false (l.drop e) = skipTo l e from rfl,hlen]; omega)]
      rw [show e + skipN false (l.drop e) = skipTo l e from rfl,piece_drop (by omega) hs]
      have : seg l e (skipTo l e) = (l.drop e).take (skipN false (l.drop e)):=by
       unfold seg skipTo
       rw [Nat.add_sub_cancel_left]
      rw [this,skipN_row,hg,awk_spaced l gap us (skipTo l e) hsl (awk_skip l e) h2]
      unfold skipTo
      omega
     rw [hk]
     have ih:=run_spaced l gap hg us (skipTo l e) (P ++ (seg l a (skipTo l e) ++ 10 :: gap)) hsl (awk_skip l e) h2
     have hPl : (P ++ (seg l a (skipTo l e) ++ 10 :: gap)).length = P.length + (skipTo l e - a) + 1 + gap.length:=by
      rw [List.length_append,List.length_append,List.length_cons,hlen]; omega
     have hPa : P ++ (seg l a (skipTo l e) ++ 10 :: gap) ++ spaced l gap us = P ++ (seg l a (skipTo l e) ++ 10 :: (gap ++ spaced l gap us)):=by
      simp [List.append_assoc]
     rw [hPl,hPa] at ih
     exact ih
/-- The blanks of the law. -/
def gapOf (n : Nat) : List UInt8:=if n % 4 = 0 then [32] else if n % 4 = 1 then [10] else if n % 4 = 2 then [32,47,47,32,114,10] else [9,13,32]
theorem gap_gap (n : Nat) : Gap (gapOf n):=by
 intro r
 unfold gapOf
 by_cases h0 : n % 4 = 0
 · rw [if_pos h0]
   show (if blankP 32 = true then skipN false r + 1 else _) = 1 + skipN false r
   rw [if_pos (by decide)]; omega
 rw [if_neg h0]
 by_cases h1 : n % 4 = 1
 · rw [if_pos h1]
   show (if blankP 10 = true then skipN false r + 1 else _) = 1 + skipN false r
   rw [if_pos (by decide)]; omega
 rw [if_neg h1]
 by_cases h2 : n % 4 = 2
 · rw [if_pos h2]
   simp only [List.cons_append,List.nil_append,List.length_cons,List.length_nil]
   rw [skipN,if_pos (by decide),skipN,if_neg (by decide),if_pos (by rfl),skipN,if_pos (by decide),skipN,if_pos (by decide),skipN,if_pos (by decide),skipN,if_neg (by decide)]
   omega
 · rw [if_neg h2]
   simp only [List.cons_append,List.nil_append,List.length_cons,List.length_nil]
   rw [skipN,if_pos (by decide),skipN,if_pos (by decide),skipN,if_pos (by decide)]
   omega
theorem gap_short (n : Nat) : (gapOf n).length ≤ 6:=by
 unfold gapOf
 by_cases h0 : n % 4 = 0
 · rw [if_pos h0]; decide
 rw [if_neg h0]
 by_cases h1 : n % 4 = 1
 · rw [if_pos h1]; decide
 rw [if_neg h1]
 by_cases h2 : n % 4 = 2
 · rw [if_pos h2]; decide
 · rw [if_neg h2]; decide
theorem scan_spaced {l gap : List UInt8} {ts : List TkA} {m : Nat} (hg : Gap gap) (hl : l.length ≤ 65536) (hn : ts.length ≤ 20000) (h : scanRes l = (ts,m,0)) (hT : (gap ++ spaced l gap ts).length ≤ 65536) :
    scanRes (gap ++ spaced l gap ts) = (moved l gap.length gap.length ts,0,0):=by
  have hr:=run_of_scan hl h
  have ha:=skipTo_le l 0 (Nat.zero_le _)
  refine scan_of_run hT (by rw [moved_length]; exact hn) ?_
  have h0 : skipTo (gap ++ spaced l gap ts) 0 = gap.length:=by
   unfold skipTo
   rw [List.drop_zero,hg,awk_spaced l gap ts _ ha (awk_skip l 0) hr]
   omega
  rw [h0]
  exact run_spaced l gap hg ts _ gap ha (awk_skip l 0) hr
/-- What is known of each token: her piece alone. -/
theorem run_piece {l : List UInt8} (hl : l.length ≤ 65536) : ∀ (us : List TkA) (a : Nat),a ≤ l.length → Awk (l.drop a) → Run l a us → ∀ i (h : i < us.length),
    us[i].2.2.2 < nextAt l (us.drop (i + 1)) ∧ nextAt l (us.drop (i + 1)) ≤ l.length ∧ scanRes (seg l us[i].2.2.2 (nextAt l (us.drop (i + 1)))) = ([(us[i].1,us[i].2.1,us[i].2.2.1,0)],0,0)
  | [],_,_,_,_,i,hi => absurd hi (by simp)
  | u :: us,a,hal,hw,h,0,_ => by
   obtain ⟨h1,ha,e,ht,h2⟩:=h
   have he:=tokL_end ha ht
   have hs:=skipTo_ge l e
   have hsl:=skipTo_le l e he.2
   have hn:=next_of_run hsl h2
   show u.2.2.2 < nextAt l us ∧ nextAt l us ≤ l.length ∧ scanRes (seg l u.2.2.2 (nextAt l us)) = _
   rw [h1,hn]
   refine ⟨by omega,hsl,?_⟩
   rcases piece_run hw ha ht with h | h
   · exact h
   · omega
  | u :: us,a,hal,hw,h,i + 1,hi => by
   obtain ⟨h1,ha,e,ht,h2⟩:=h
   have he:=tokL_end ha ht
   have hsl:=skipTo_le l e he.2
   exact run_piece hl us (skipTo l e) hsl (awk_skip l e) h2 i (by simpa using hi)
end Go.Proofs.YtffnaknidofobaaGreatDoor
