/- Tokens and blanks are told by their own bytes alone: the plain mathematics of cuts, and where Scan's tokens and faults stand. -/
import Derived.Test.YtffnaknidofobaaGreatDoorTokenJt
namespace Go.Proofs.YtffnaknidofobaaGreatDoor
open Go.RowKit
/-- What may follow a token that was cut off: nothing, or a new row. -/
def Ends (r : List UInt8) : Prop:=∀ c,r.head? = some c → c = 10 ∨ c = 32
theorem Ends.nil : Ends []:=fun _ h => by cases h
theorem Ends.row (r : List UInt8) : Ends (10 :: r):=fun c h => by
 rw [List.head?_cons] at h
 exact .inl (Option.some.inj h).symm
theorem Ends.blank (r : List UInt8) : Ends (32 :: r):=fun c h => by
 rw [List.head?_cons] at h
 exact .inr (Option.some.inj h).symm
theorem Ends.at {p : UInt8 → Bool} {r : List UInt8} (h : Ends r) (hp : p 10 = false ∧ p 32 = false) : atP p r 0 = false:=by
 cases r with
 | nil => rfl
 | cons c r' =>
  rcases h c rfl with e | e
  · subst e; exact hp.1
  · subst e; exact hp.2
theorem Ends.takeWhile {p : UInt8 → Bool} {r : List UInt8} (h : Ends r) (hp : p 10 = false ∧ p 32 = false) : r.takeWhile p = []:=by
 cases r with
 | nil => rfl
 | cons c r' =>
  rcases h c rfl with e | e
  · subst e; simp [hp.1]
  · subst e; simp [hp.2]
theorem Ends.dropWhile {p : UInt8 → Bool} {r : List UInt8} (h : Ends r) (hp : p 10 = false ∧ p 32 = false) : r.dropWhile p = r:=by
 cases r with
 | nil => rfl
 | cons c r' =>
  rcases h c rfl with e | e
  · subst e; simp [hp.1]
  · subst e; simp [hp.2]
theorem tw_cut {p : UInt8 → Bool} {r : List UInt8} (hr : Ends r) (hp : p 10 = false ∧ p 32 = false) : ∀ (y : List UInt8) (m : Nat),(y.takeWhile p).length ≤ m → (y.take m ++ r).takeWhile p = y.takeWhile p
  | [],m,_ => by rw [List.take_nil,List.nil_append,hr.takeWhile hp]; rfl
  | c :: y,0,h => by
   by_cases hc : p c = true
   · rw [List.takeWhile_cons_of_pos hc] at h
     simp at h
   · rw [List.take_zero,List.nil_append,hr.takeWhile hp,List.takeWhile_cons_of_neg hc]
  | c :: y,m + 1,h => by
   rw [List.take_succ_cons,List.cons_append]
   by_cases hc : p c = true
   · rw [List.takeWhile_cons_of_pos hc] at h ⊢
     rw [List.takeWhile_cons_of_pos hc,tw_cut hr hp y m (by simpa using h)]
   · rw [List.takeWhile_cons_of_neg hc,List.takeWhile_cons_of_neg hc]
theorem dw_cut {p q : UInt8 → Bool} {r : List UInt8} (hr : Ends r) (hp : p 10 = false ∧ p 32 = false) (hq : q 10 = false ∧ q 32 = false) : ∀ (y : List UInt8) (m : Nat),(y.takeWhile p).length ≤ m → atP q (y.dropWhile p) 0 = false → atP q ((y.take m ++ r).dropWhile p) 0 = false
  | [],m,_,_ => by rw [List.take_nil,List.nil_append,hr.dropWhile hp]; exact hr.at hq
  | c :: y,0,h,_ => by
   by_cases hc : p c = true
   · rw [List.takeWhile_cons_of_pos hc] at h
     simp at h
   · rw [List.take_zero,List.nil_append,hr.dropWhile hp]; exact hr.at hq
  | c :: y,m + 1,h,h2 => by
   rw [List.take_succ_cons,List.cons_append]
   by_cases hc : p c = true
   · rw [List.takeWhile_cons_of_pos hc] at h
     rw [List.dropWhile_cons_of_pos hc] at h2 ⊢
     exact dw_cut hr hp hq y m (by simpa using h) h2
   · rw [List.dropWhile_cons_of_neg hc] at h2 ⊢
     exact h2
theorem endOf_zero (p : UInt8 → Bool) (y : List UInt8) : endOf p y 0 = (y.takeWhile p).length:=by
 unfold endOf
 rw [List.drop_zero,Nat.zero_add]
theorem seg_zero (y : List UInt8) (e : Nat) : seg y 0 e = y.take e:=by
 unfold seg
 rw [List.drop_zero,Nat.sub_zero]
theorem endOf_drop (p : UInt8 → Bool) (l : List UInt8) (k : Nat) : endOf p l k = k + endOf p (l.drop k) 0:=by
 rw [endOf_zero]; rfl
theorem seg_drop (l : List UInt8) (k e : Nat) : seg l k (k + e) = seg (l.drop k) 0 e:=by
 rw [seg_zero]
 unfold seg
 rw [Nat.add_sub_cancel_left]
/-- A token told from another place. -/
def shT (k : Nat) : Option Tok → Option Tok
  | some (kd,t,n,e) => some (kd,t,n,k + e)
  | none => none
theorem nameL_drop (l : List UInt8) (k : Nat) : nameL l k = shT k (nameL (l.drop k) 0):=by
 unfold nameL
 rw [endOf_drop innerP l k,seg_drop,Nat.add_sub_cancel_left,Nat.sub_zero]
 by_cases h : 64 < endOf innerP (l.drop k) 0
 · rw [if_pos h,if_pos h]; rfl
 · rw [if_neg h,if_neg h]; rfl
theorem numL_drop (l : List UInt8) (k : Nat) : numL l k = shT k (numL (l.drop k) 0):=by
 unfold numL
 rw [endOf_drop digitP l k,seg_drop]
 have h0 : (l.drop k)[0]? = l[k]?:=by rw [List.getElem?_drop]; rfl
 have h1 : atP firstP (l.drop k) (endOf digitP (l.drop k) 0) = atP firstP l (k + endOf digitP (l.drop k) 0):=by
  unfold atP
  rw [List.getElem?_drop]
 rw [h0,h1]
 by_cases hA : l[k]? = some 48 ∧ k + 1 < k + endOf digitP (l.drop k) 0
 · rw [if_pos hA,if_pos ⟨hA.1,by omega⟩]; rfl
 · have hA' : ¬ (l[k]? = some 48 ∧ 0 + 1 < endOf digitP (l.drop k) 0):=fun h => hA ⟨h.1,by omega⟩
   rw [if_neg hA,if_neg hA']
   by_cases hB : atP firstP l (k + endOf digitP (l.drop k) 0) = true
   · rw [if_pos hB,if_pos hB]; rfl
   · rw [if_neg hB,if_neg hB]
     by_cases hC : 9223372036854775808 ≤ numOf (seg (l.drop k) 0 (endOf digitP (l.drop k) 0))
     · rw [if_pos hC,if_pos hC]; rfl
     · rw [if_neg hC,if_neg hC]; rfl
theorem textL_drop (l : List UInt8) (k : Nat) : textL l k = shT k (textL (l.drop k) 0):=by
 unfold textL textRes
 rw [List.drop_drop,Nat.zero_add]
 cases strL (l.drop (k + 1)) with
 | none => rfl
 | some x =>
  obtain ⟨t,n⟩:=x
  by_cases h : t.length ≤ 1024
  · simp only [if_pos h,shT,Option.some.injEq,Prod.mk.injEq,true_and]; omega
  · simp only [if_neg h,shT]
theorem markL_drop (l : List UInt8) (k : Nat) : markL l k = shT k (markL (l.drop k) 0):=by
 unfold markL
 rw [seg_drop l k 2,seg_drop l k 1,atP_drop]
 have hlen:=List.length_drop (i:=k) (l:=l)
 by_cases hA : k + 2 ≤ l.length ∧ pairP (seg (l.drop k) 0 2) = true
 · have hA' : 0 + 2 ≤ (l.drop k).length ∧ pairP (seg (l.drop k) 0 (0 + 2)) = true:=⟨by omega,hA.2⟩
   rw [if_pos hA,if_pos hA']; rfl
 · have hA' : ¬ (0 + 2 ≤ (l.drop k).length ∧ pairP (seg (l.drop k) 0 (0 + 2)) = true):=fun h => hA ⟨by omega,h.2⟩
   rw [if_neg hA,if_neg hA']
   by_cases hB : atP singleP l k = true
   · rw [if_pos hB,if_pos hB]; rfl
   · rw [if_neg hB,if_neg hB]; rfl
theorem tokL_drop (l : List UInt8) (k : Nat) : tokL l k = shT k (tokL (l.drop k) 0):=by
 unfold tokL
 rw [atP_drop,atP_drop,atP_drop,nameL_drop,numL_drop l,textL_drop l,markL_drop l]
 by_cases h1 : atP firstP l k = true
 · rw [if_pos h1,if_pos h1]
 · rw [if_neg h1,if_neg h1]
   by_cases h2 : atP digitP l k = true
   · rw [if_pos h2,if_pos h2]
   · rw [if_neg h2,if_neg h2]
     by_cases h3 : atP quoteP l k = true
     · rw [if_pos h3,if_pos h3]
     · rw [if_neg h3,if_neg h3]
theorem escL_cut {y : List UInt8} {b : UInt8} {n m : Nat} (r : List UInt8) (h : escL y = some (b,n)) (hm : n ≤ m) : escL (y.take m ++ r) = some (b,n):=by
 have hl:=escL_len y b n h
 match y,h,hl with
 | c :: d :: y',h,hl =>
  obtain ⟨m,rfl⟩ : ∃ m',m = m' + 2:=⟨m - 2,by omega⟩
  rw [List.take_succ_cons,List.take_succ_cons,List.cons_append,List.cons_append]
  unfold escL at h ⊢
  dsimp only at h ⊢
  by_cases h92 : c = 92
  · rw [if_pos h92] at h ⊢
    by_cases h1 : d = 110
    · rw [if_pos h1] at h ⊢; exact h
    · rw [if_neg h1] at h ⊢
      by_cases h2 : d = 116
      · rw [if_pos h2] at h ⊢; exact h
      · rw [if_neg h2] at h ⊢
        by_cases h3 : d = 34 ∨ d = 92
        · rw [if_pos h3] at h ⊢; exact h
        · rw [if_neg h3] at h ⊢
          by_cases h4 : d = 120
          · rw [if_pos h4] at h ⊢
            match y',h,hl with
            | x :: z :: y'',h,hl =>
             dsimp only at h
             cases hx : hexFrom 0 [x,z] with
             | none => rw [hx] at h; cases h
             | some v =>
              rw [hx] at h
              have hn : n = 4:=by cases h; rfl
              obtain ⟨m,rfl⟩ : ∃ m',m = m' + 2:=⟨m - 2,by omega⟩
              rw [List.take_succ_cons,List.take_succ_cons,List.cons_append,List.cons_append]
              dsimp only
              rw [hx]; exact h
          · rw [if_neg h4] at h; cases h
  · rw [if_neg h92] at h; cases h
theorem shiftS_some {out t : List UInt8} {m n : Nat} {o : Option (List UInt8 × Nat)} (h : shiftS out m o = some (t,n)) : ∃ t' n',o = some (t',n') ∧ t = out ++ t' ∧ n = m + n':=by
 cases o with
 | none => cases h
 | some x =>
  obtain ⟨t',n'⟩:=x
  cases h
  exact ⟨t',n',rfl,rfl,rfl⟩
theorem strF_cut (r : List UInt8) : ∀ (f : Nat) (y t : List UInt8) (n m : Nat),strF f y = some (t,n) → n ≤ m → strF f (y.take m ++ r) = some (t,n)
  | 0,_,_,_,_,h,_ => by cases h
  | f + 1,[],_,_,_,h,_ => by cases h
  | f + 1,c :: y,t,n,m,h,hm => by
   have hl:=strF_len _ _ _ _ h
   obtain ⟨m,rfl⟩ : ∃ m',m = m' + 1:=⟨m - 1,by omega⟩
   rw [List.take_succ_cons,List.cons_append]
   unfold strF at h ⊢
   by_cases hq : quoteP c = true
   · rw [if_pos hq] at h ⊢; exact h
   · rw [if_neg hq] at h ⊢
     by_cases hp : plainP c = true
     · rw [if_pos hp] at h ⊢
       obtain ⟨t',n',h1,h2,h3⟩:=shiftS_some h
       rw [strF_cut r f y t' n' m h1 (by omega),h2,h3]; rfl
     · rw [if_neg hp] at h ⊢
       cases he : escL (c :: y) with
       | none => rw [he] at h; cases h
       | some x =>
        obtain ⟨b,k⟩:=x
        rw [he] at h
        dsimp only at h
        obtain ⟨t',n',h1,h2,h3⟩:=shiftS_some h
        have hl2:=escL_len _ _ _ he
        have hc:=escL_cut r he (m:=m + 1) (by omega)
        rw [List.take_succ_cons,List.cons_append] at hc
        rw [hc]
        dsimp only
        have hd : (c :: (y.take m ++ r)).drop k = ((c :: y).drop k).take (m + 1 - k) ++ r:=by
         rw [← List.cons_append,← List.take_succ_cons,List.drop_append_of_le_length (by rw [List.length_take]; omega),List.drop_take]
        rw [hd,strF_cut r f _ t' n' (m + 1 - k) h1 (by omega),h2,h3]; rfl
theorem strL_cut {y t : List UInt8} {n m : Nat} (r : List UInt8) (h : strL y = some (t,n)) (hm : n ≤ m) : strL (y.take m ++ r) = some (t,n):=by
 unfold strL at h ⊢
 rw [strF_fuel y.length y (Nat.le_refl _) (y.length + (y.take m ++ r).length) (by omega)] at h
 rw [strF_fuel (y.take m ++ r).length _ (Nat.le_refl _) (y.length + (y.take m ++ r).length) (by omega)]
 exact strF_cut r _ _ _ _ _ h hm
theorem pair_row : ∀ c : UInt8,pairP [c,10] = false:=byte_all (by decide +kernel)
theorem pair_blank : ∀ c : UInt8,pairP [c,32] = false:=byte_all (by decide +kernel)
theorem nameL_cut {y : List UInt8} {kd : Int} {t : List UInt8} {n : Int} {e m : Nat} {r : List UInt8} (hr : Ends r) (h : nameL y 0 = some (kd,t,n,e)) (hm : e ≤ m) : nameL (y.take m ++ r) 0 = some (kd,t,n,e):=by
 unfold nameL at h ⊢
 rw [seg_takeWhile,List.drop_zero,endOf_zero] at h ⊢
 by_cases h1 : 64 < (y.takeWhile innerP).length - 0
 · rw [if_pos h1] at h; cases h
 · rw [if_neg h1] at h
   have he : (y.takeWhile innerP).length = e:=by injection h with h; injection h with _ h; injection h with _ h; injection h
   rw [tw_cut hr (by decide) y m (by omega),if_neg h1]
   exact h
theorem numL_cut {y : List UInt8} {kd : Int} {t : List UInt8} {n : Int} {e m : Nat} {r : List UInt8} (hr : Ends r) (hm1 : 1 ≤ m) (hy : y ≠ []) (h : numL y 0 = some (kd,t,n,e)) (hm : e ≤ m) : numL (y.take m ++ r) 0 = some (kd,t,n,e):=by
 have h0 : (y.take m ++ r)[0]? = y[0]?:=by
  match y,m,hy,hm1 with
  | c :: y',m' + 1,_,_ => rfl
 unfold numL at h ⊢
 rw [seg_takeWhile,List.drop_zero] at h ⊢
 rw [← atP_drop firstP,drop_endOf,List.drop_zero,endOf_zero] at h ⊢
 rw [h0]
 by_cases h1 : y[0]? = some 48 ∧ 0 + 1 < (y.takeWhile digitP).length
 · rw [if_pos h1] at h; cases h
 · rw [if_neg h1] at h
   by_cases h2 : atP firstP (y.dropWhile digitP) 0 = true
   · rw [if_pos h2] at h; cases h
   · rw [if_neg h2] at h
     by_cases h3 : 9223372036854775808 ≤ numOf (y.takeWhile digitP)
     · rw [if_pos h3] at h; cases h
     · rw [if_neg h3] at h
       have he : (y.takeWhile digitP).length = e:=by injection h with h; injection h with _ h; injection h with _ h; injection h
       have h2':=dw_cut hr (p:=digitP) (q:=firstP) (by decide) (by decide) y m (by omega) (by simpa using h2)
       rw [tw_cut hr (by decide) y m (by omega),if_neg h1,h2',if_neg (by decide),if_neg h3]
       exact h
theorem textL_cut {y : List UInt8} {kd : Int} {t : List UInt8} {n : Int} {e m : Nat} {r : List UInt8} (hy : y ≠ []) (h : textL y 0 = some (kd,t,n,e)) (hm : e ≤ m) : textL (y.take m ++ r) 0 = some (kd,t,n,e):=by
 match y,hy with
 | c :: y',_ =>
  unfold textL textRes at h ⊢
  rw [Nat.zero_add,List.drop_one,List.tail_cons] at h
  cases hs : strL y' with
  | none => rw [hs] at h; cases h
  | some x =>
   obtain ⟨u,j⟩:=x
   rw [hs] at h
   by_cases hu : u.length ≤ 1024
   · simp only [if_pos hu] at h
     have he : 1 + j = e:=by injection h with h; injection h with _ h; injection h with _ h; injection h
     obtain ⟨m,rfl⟩ : ∃ m',m = m' + 1:=⟨m - 1,by omega⟩
     rw [List.take_succ_cons,List.cons_append,Nat.zero_add,List.drop_one,List.tail_cons,strL_cut r hs (by omega)]
     simp only [if_pos hu]
     exact h
   · simp only [if_neg hu] at h; cases h
theorem markL_cut {y : List UInt8} {kd : Int} {t : List UInt8} {n : Int} {e m : Nat} {r : List UInt8} (hr : Ends r) (hm1 : 1 ≤ m) (hy : y ≠ []) (h : markL y 0 = some (kd,t,n,e)) (hm : e ≤ m) : markL (y.take m ++ r) 0 = some (kd,t,n,e):=by
 unfold markL at h ⊢
 rw [seg_zero,seg_zero,Nat.zero_add] at h ⊢
 match y,m,hy,hm1 with
 | c :: y',m + 1,_,_ =>
  rw [List.take_succ_cons,List.cons_append]
  by_cases h1 : 2 ≤ (c :: y').length ∧ pairP ((c :: y').take 2) = true
  · rw [if_pos h1] at h
    have he : 2 = e:=by injection h with h; injection h with _ h; injection h with _ h; injection h
    obtain ⟨m,rfl⟩ : ∃ m',m = m' + 1:=⟨m - 1,by omega⟩
    match y',h1,h with
    | d :: y'',h1,h =>
     rw [List.take_succ_cons,List.cons_append]
     have h2 : 2 ≤ (c :: d :: (y''.take m ++ r)).length ∧ pairP ((c :: d :: (y''.take m ++ r)).take 2) = true:=⟨by simp,h1.2⟩
     rw [if_pos h2]; exact h
  · rw [if_neg h1] at h
    have h2 : ¬ (2 ≤ (c :: (y'.take m ++ r)).length ∧ pairP ((c :: (y'.take m ++ r)).take 2) = true):=by
     rintro ⟨ha,hb⟩
     cases y' with
     | nil =>
      rw [List.take_nil,List.nil_append] at ha hb
      cases r with
      | nil => simp at ha
      | cons d r' =>
       rcases hr d rfl with e | e
       · subst e
         have hb' : pairP [c,10] = true:=hb
         rw [pair_row] at hb'; cases hb'
       · subst e
         have hb' : pairP [c,32] = true:=hb
         rw [pair_blank] at hb'; cases hb'
     | cons d y'' =>
      cases m with
      | zero =>
       rw [List.take_zero,List.nil_append] at ha hb
       cases r with
       | nil => simp at ha
       | cons d r' =>
        rcases hr d rfl with e | e
        · subst e
          have hb' : pairP [c,10] = true:=hb
          rw [pair_row] at hb'; cases hb'
        · subst e
          have hb' : pairP [c,32] = true:=hb
          rw [pair_blank] at hb'; cases hb'
      | succ m => exact h1 ⟨by simp,hb⟩
    rw [if_neg h2]
    exact h
theorem tokL_cut {y : List UInt8} {kd : Int} {t : List UInt8} {n : Int} {e m : Nat} {r : List UInt8} (hr : Ends r) (hy : y ≠ []) (h : tokL y 0 = some (kd,t,n,e)) (hm : e ≤ m) : tokL (y.take m ++ r) 0 = some (kd,t,n,e):=by
 have hl:=tokL_end (List.length_pos_iff.2 hy) h
 have hm1 : 1 ≤ m:=by omega
 have hat : ∀ p,atP p (y.take m ++ r) 0 = atP p y 0:=by
  intro p
  match y,m,hy,hm1 with
  | c :: y',m' + 1,_,_ => rfl
 unfold tokL at h ⊢
 rw [hat,hat,hat]
 by_cases h1 : atP firstP y 0 = true
 · rw [if_pos h1] at h ⊢; exact nameL_cut hr h hm
 · rw [if_neg h1] at h ⊢
   by_cases h2 : atP digitP y 0 = true
   · rw [if_pos h2] at h ⊢; exact numL_cut hr hm1 hy h hm
   · rw [if_neg h2] at h ⊢
     by_cases h3 : atP quoteP y 0 = true
     · rw [if_pos h3] at h ⊢; exact textL_cut hy h hm
     · rw [if_neg h3] at h ⊢; exact markL_cut hr hm1 hy h hm
theorem skipN_cut : ∀ (x : List UInt8) (b : Bool) (n : Nat),skipN b x ≤ n → skipN b (x.take n) = skipN b x
  | [],_,_,_ => by rw [List.take_nil]
  | c :: x,true,0,h => by
   unfold skipN at h
   by_cases hc : remarkP c = true
   · rw [if_pos hc] at h; omega
   · rw [if_neg hc] at h; omega
  | c :: x,true,n + 1,h => by
   rw [List.take_succ_cons]
   unfold skipN at h ⊢
   by_cases hc : remarkP c = true
   · rw [if_pos hc] at h
     rw [if_pos hc,if_pos hc,skipN_cut x true n (by omega)]
   · rw [if_neg hc] at h
     rw [if_neg hc,if_neg hc,skipN_cut x false n (by omega)]
  | c :: x,false,0,h => by
   rw [List.take_zero]
   show 0 = _
   omega
  | c :: x,false,n + 1,h => by
   rw [List.take_succ_cons]
   unfold skipN at h ⊢
   by_cases hc : blankP c = true
   · rw [if_pos hc] at h
     rw [if_pos hc,if_pos hc,skipN_cut x false n (by omega)]
   · rw [if_neg hc] at h
     rw [if_neg hc,if_neg hc]
     by_cases h2 : (c == 47 && x.head? == some 47) = true
     · rw [if_pos h2] at h
       rw [if_pos h2]
       have hx : skipN true x ≤ n:=by omega
       have h3 : (c == 47 && (x.take n).head? == some 47) = true:=by
        cases x with
        | nil => rw [List.take_nil]; exact h2
        | cons d x' =>
         cases n with
         | zero =>
          have : 0 < skipN true (d :: x'):=by
           unfold skipN
           by_cases hd : remarkP d = true
           · rw [if_pos hd]; omega
           · rw [if_neg hd]; omega
          omega
         | succ n => exact h2
       rw [if_pos h3,skipN_cut x true n hx]
     · rw [if_neg h2]
       have h3 : ¬ (c == 47 && (x.take n).head? == some 47) = true:=by
        intro h3
        apply h2
        cases x with
        | nil => rw [List.take_nil] at h3; exact h3
        | cons d x' =>
         cases n with
         | zero => simp at h3
         | succ n => exact h3
       rw [if_neg h3]
theorem tokL_take {l : List UInt8} {a m : Nat} {kd : Int} {t : List UInt8} {n : Int} {e : Nat} (ha : a < l.length) (h : tokL l a = some (kd,t,n,e)) (hm : e ≤ m) : tokL (l.take m) a = some (kd,t,n,e):=by
 have hl:=tokL_end ha h
 rw [tokL_drop] at h ⊢
 rw [List.drop_take]
 cases hy : tokL (l.drop a) 0 with
 | none => rw [hy] at h; cases h
 | some x =>
  obtain ⟨kd',t',n',e'⟩:=x
  rw [hy] at h
  have he : a + e' = e:=by injection h with h; injection h with _ h; injection h with _ h; injection h
  have hc:=tokL_cut (m:=m - a) Ends.nil (fun h0 => by have:=congrArg List.length h0; rw [List.length_drop] at this; simp at this; omega) hy (by omega)
  rw [List.append_nil] at hc
  rw [hc]; exact h
theorem skipTo_take {l : List UInt8} {k m : Nat} (h : skipTo l k ≤ m) : skipTo (l.take m) k = skipTo l k:=by
 unfold skipTo at h ⊢
 rw [List.drop_take,skipN_cut _ _ _ (by omega)]
/-- Ahead of a fault's place there are only tokens. -/
theorem scanF_ahead (l : List UInt8) (m : Nat) : ∀ (f a : Nat) (acc : List TkA),scanF l f a acc = ([],m,3) → a ≤ m ∧ m < l.length ∧ ∀ g,m - a < g → (scanF (l.take m) g a acc).2.2 = 0
  | 0,a,acc,h => by cases h
  | f + 1,a,acc,h => by
   by_cases ha : a < l.length
   · by_cases hl : acc.length = 20000
     · rw [scanF_large (Nat.succ_pos _) ha hl] at h; cases h
     · cases ht : tokL l a with
       | none =>
        rw [scanF_fault (Nat.succ_pos _) ha hl ht] at h
        have hm : a = m:=by injection h with _ h; injection h
        subst hm
        refine ⟨Nat.le_refl _,ha,fun g hg => ?_⟩
        rw [scanF_end (by omega) (by rw [List.length_take]; omega)]
       | some x =>
        obtain ⟨kd,t,n,e⟩:=x
        rw [scanF_step ha hl ht] at h
        obtain ⟨h1,h2,h3⟩:=scanF_ahead l m f _ _ h
        have he:=tokL_end ha ht
        have hs:=skipTo_ge l e
        refine ⟨by omega,h2,fun g hg => ?_⟩
        obtain ⟨g,rfl⟩ : ∃ g',g = g' + 1:=⟨g - 1,by omega⟩
        rw [scanF_step (by rw [List.length_take]; omega) hl (tokL_take ha ht (by omega)),skipTo_take h1]
        exact h3 g (by omega)
   · rw [scanF_end (Nat.succ_pos _) ha] at h; cases h
theorem scanRes_ahead {l : List UInt8} {ts : List TkA} {m : Nat} (h : scanRes l = (ts,m,3)) (hts : ts = []) : m < l.length ∧ (scanRes (l.take m)).2.2 = 0:=by
 subst hts
 unfold scanRes at h
 by_cases hl : 65536 < l.length
 · rw [if_pos hl] at h; cases h
 · rw [if_neg hl] at h
   obtain ⟨h1,h2,h3⟩:=scanF_ahead l m _ _ _ h
   refine ⟨h2,?_⟩
   unfold scanRes
   rw [if_neg (by rw [List.length_take]; omega),skipTo_take h1]
   exact h3 _ (by rw [List.length_take]; omega)
/-- What Scan's answer keeps to. -/
structure Placed (l : List UInt8) (r : List TkA × Nat × Int) : Prop where
  order : r.1.Pairwise (fun x y => x.2.2.2 < y.2.2.2)
  within : ∀ t ∈ r.1,t.2.2.2 < l.length
  few : r.1.length ≤ 20000
  ends : (r.2.1 = 0 ∧ r.2.2 = 0) ∨ (r.1 = [] ∧ r.2.1 < l.length ∧ (r.2.2 = 4 ∨ r.2.2 = 3)) ∨ (r.1 = [] ∧ r.2.1 = 0 ∧ r.2.2 = 13)
theorem scanF_placed (l : List UInt8) : ∀ (f a : Nat) (acc : List TkA),acc.Pairwise (fun x y => x.2.2.2 < y.2.2.2) → (∀ t ∈ acc,t.2.2.2 < l.length ∧ t.2.2.2 < a) → acc.length ≤ 20000 → Placed l (scanF l f a acc)
  | 0,a,acc,h1,h2,h3 => ⟨h1,fun t ht => (h2 t ht).1,h3,Or.inl ⟨rfl,rfl⟩⟩
  | f + 1,a,acc,h1,h2,h3 => by
   by_cases ha : a < l.length
   · by_cases hl : acc.length = 20000
     · rw [scanF_large (Nat.succ_pos _) ha hl]
       exact ⟨List.Pairwise.nil,fun t ht => absurd ht List.not_mem_nil,Nat.zero_le _,Or.inr (Or.inl ⟨rfl,ha,Or.inl rfl⟩)⟩
     · cases ht : tokL l a with
       | none =>
        rw [scanF_fault (Nat.succ_pos _) ha hl ht]
        exact ⟨List.Pairwise.nil,fun t ht => absurd ht List.not_mem_nil,Nat.zero_le _,Or.inr (Or.inl ⟨rfl,ha,Or.inr rfl⟩)⟩
       | some x =>
        obtain ⟨kd,t,n,e⟩:=x
        rw [scanF_step ha hl ht]
        have he:=tokL_end ha ht
        have hs:=skipTo_ge l e
        refine scanF_placed l f _ _ ?_ ?_ ?_
        · rw [List.pairwise_append]
          refine ⟨h1,List.pairwise_singleton _ _,fun x hx y hy => ?_⟩
          rw [List.mem_singleton] at hy
          subst hy
          exact (h2 x hx).2
        · intro x hx
          rw [List.mem_append,List.mem_singleton] at hx
          rcases hx with hx | hx
          · exact ⟨(h2 x hx).1,by have:=(h2 x hx).2; omega⟩
          · subst hx
            exact ⟨ha,by show a < _; omega⟩
        · rw [List.length_append,List.length_singleton]; omega
   · rw [scanF_end (Nat.succ_pos _) ha]
     exact ⟨h1,fun t ht => (h2 t ht).1,h3,Or.inl ⟨rfl,rfl⟩⟩
theorem scanRes_placed (l : List UInt8) : Placed l (scanRes l):=by
 unfold scanRes
 by_cases hl : 65536 < l.length
 · rw [if_pos hl]
   exact ⟨List.Pairwise.nil,fun t ht => absurd ht List.not_mem_nil,Nat.zero_le _,Or.inr (Or.inr ⟨rfl,rfl,rfl⟩)⟩
 · rw [if_neg hl]
   exact scanF_placed l _ _ _ List.Pairwise.nil (fun t ht => absurd ht List.not_mem_nil) (Nat.zero_le _)
end Go.Proofs.YtffnaknidofobaaGreatDoor
