/- Words as they are laid out, scanned: plain. -/
import Derived.Test.YtffnaknidofobaaGreatDoorBkHJt
import Derived.Test.YtffnaknidofobaaGreatDoorSpacMJt
import Derived.Test.YtffnaknidofobaaGreatDoorQuoteJt
import Derived.Test.YtffnaknidofobaaGreatDoorParYJt
namespace Go.Proofs.YtffnaknidofobaaGreatDoor
/-- What a word's token is. -/
def clsW (w : Wd) : Int × List UInt8 × Int:=match tokL w 0 with
  | some (k,t,n,_) => (k,t,n)
  | none => (0,[],0)
/-- A word is one token. -/
structure Wok (w : Wd) : Prop where
  ne : w ≠ []
  tok : tokL w 0 = some ((clsW w).1,(clsW w).2.1,(clsW w).2.2,w.length)
  awk : Awk w
theorem cls_of {w t : Wd} {k n : Int} (h : tokL w 0 = some (k,t,n,w.length)) : clsW w = (k,t,n):=by unfold clsW; rw [h]
theorem Wok.of {w t : Wd} {k n : Int} (ne : w ≠ []) (h : tokL w 0 = some (k,t,n,w.length)) (ha : Awk w) : Wok w:=⟨ne,by rw [cls_of h]; exact h,ha⟩
theorem marks_tok : ∀ w ∈ marksL,tokL w 0 = some (4,w,0,w.length) ∧ skipN false w = 0 ∧ w ≠ []:=by decide +kernel
theorem words_tok : ∀ w ∈ wordsL,tokL w 0 = some (5,w,0,w.length) ∧ skipN false w = 0 ∧ w ≠ []:=by decide +kernel
theorem lit_ok {w : Wd} (h : w ∈ marksL ++ wordsL) : Wok w:=by
 rcases List.mem_append.1 h with h | h
 · have:=marks_tok w h; exact .of this.2.2 this.1 this.2.1
 · have:=words_tok w h; exact .of this.2.2 this.1 this.2.1
set_option maxRecDepth 20000 in
theorem first_awk : ∀ c : UInt8,firstP c = true → blankP c = false ∧ (c == 47) = false:=byte_all (by decide +kernel)
set_option maxRecDepth 20000 in
theorem digit_awk : ∀ c : UInt8,digitP c = true → blankP c = false ∧ (c == 47) = false:=byte_all (by decide +kernel)
theorem awk_of {c : UInt8} {r : List UInt8} (h : blankP c = false ∧ (c == 47) = false) : Awk (c :: r):=by
 show (if blankP c = true then _ else if (c == 47 && r.head? == some 47) = true then _ else _) = _
 rw [h.1,h.2]; simp
theorem at_first {p : UInt8 → Bool} {w : Wd} (h : atP p w 0 = true) : ∃ c r,w = c :: r ∧ p c = true:=by
 match w,h with
 | c :: r,h => exact ⟨c,r,rfl,h⟩
theorem name_tok {w : Wd} (h : nameP w = true) : tokL w 0 = some (1,w,0,w.length) ∧ Awk w ∧ w ≠ []:=by
 unfold nameP at h
 split at h
 · cases h
 · rename_i hl
   have hne : w ≠ []:=fun e => hl (.inl (by rw [e]; rfl))
   split at h
   · rename_i kd t n e ht
     simp only [Bool.and_eq_true,beq_iff_eq] at h
     obtain ⟨he,hk⟩:=h
     subst he hk
     have ht':=ht
     unfold tokL at ht
     split at ht
     · rename_i hf
       unfold nameL at ht
       split at ht
       · cases ht
       · injection ht with ht; injection ht with h1 ht; injection ht with h2 ht; injection ht with h3 h4
         have hs : seg w 0 w.length = w:=by simp [seg]
         rw [h4,hs] at h2
         rw [← h2,← h3] at ht'
         obtain ⟨c,r,rfl,hc⟩:=at_first hf
         exact ⟨ht',awk_of (first_awk c hc),hne⟩
     · split at ht
       · unfold numL at ht
         split at ht
         · cases ht
         · split at ht
           · cases ht
           · split at ht
             · cases ht
             · injection ht with ht; injection ht with h1 ht; cases h1
       · split at ht
         · unfold textL at ht
           split at ht
           · injection ht with ht; injection ht with h1 ht; cases h1
           · cases ht
         · unfold markL at ht
           split at ht
           · injection ht with ht; injection ht with h1 ht; cases h1
           · split at ht
             · injection ht with ht; injection ht with h1 ht; cases h1
             · cases ht
   · cases h
theorem numFrom_app : ∀ (a b : List UInt8) (k : Nat),numFrom k (a ++ b) = numFrom (numFrom k a) b
  | [],_,_ => rfl
  | c :: a,b,k => numFrom_app a b (k * 10 + (c.toNat - 48))
theorem numFrom_one (k : Nat) (c : UInt8) : numFrom k [c] = k * 10 + (c.toNat - 48):=rfl
theorem digit_dec : ∀ d,d < 10 → digitP (UInt8.ofNat (48 + d)) = true ∧ (UInt8.ofNat (48 + d)).toNat - 48 = d ∧ (d ≠ 0 → UInt8.ofNat (48 + d) ≠ 48):=by decide +kernel
/-- Digits spell their number. -/
theorem dec_spelt (u : Nat) : (Lib.decDigits u).all digitP = true ∧ numOf (Lib.decDigits u) = u ∧ Lib.decDigits u ≠ [] ∧ ((Lib.decDigits u).head? ≠ some 48 ∨ u = 0):=by
 induction u using Nat.strongRecOn with
 | _ u ih =>
  by_cases h : u < 10
  · have:=digit_dec u h
    rw [Lib.decDigits,dif_pos h]
    refine ⟨by rw [List.all_cons,this.1]; rfl,by rw [numOf,numFrom_one,this.2.1]; omega,by simp,?_⟩
    by_cases h0 : u = 0
    · exact .inr h0
    · exact .inl (by simpa using this.2.2 h0)
  · have hd:=digit_dec (u % 10) (by omega)
    obtain ⟨h1,h2,h3,h4⟩:=ih (u / 10) (by omega)
    rw [Lib.decDigits,dif_neg h]
    refine ⟨by rw [List.all_append,h1,List.all_cons,hd.1]; rfl,?_,by simp,.inl ?_⟩
    · have e : numFrom 0 (Lib.decDigits (u / 10)) = u / 10:=h2
      rw [numOf,numFrom_app,e,numFrom_one,hd.2.1]; omega
    · rcases h4 with h4 | h4
      · match hx : Lib.decDigits (u / 10),h3 with
        | c :: r,_ => rw [hx] at h4; simpa using h4
      · omega
theorem num_tok {n : Int} (h0 : 0 ≤ n) (h1 : n ≤ 9223372036854775807) : tokL (Lib.itoa n) 0 = some (2,[],n,(Lib.itoa n).length) ∧ Awk (Lib.itoa n) ∧ Lib.itoa n ≠ []:=by
 obtain ⟨u,rfl⟩ : ∃ u : Nat,n = u:=⟨n.toNat,by omega⟩
 have hi : Lib.itoa (u : Int) = Lib.decDigits u:=by unfold Lib.itoa; rw [if_neg (by omega)]; simp
 rw [hi]
 obtain ⟨d1,d2,d3,d4⟩:=dec_spelt u
 have hz : u = 0 → Lib.decDigits u = [48]:=fun e => by subst e; rw [Lib.decDigits,dif_pos (by omega)]; rfl
 generalize Lib.decDigits u = ds at *
 have hal : ds.all digitP = true:=d1
 match ds,d3,d1 with
 | c :: r,_,d1 =>
  rw [List.all_cons,Bool.and_eq_true] at d1
  have hf : firstP c = false:=digit_first c d1.1
  have he : endOf digitP (c :: r) 0 = (c :: r).length:=by unfold endOf; rw [List.drop_zero,takeWhile_all digitP _ hal,Nat.zero_add]
  refine ⟨?_,awk_of (digit_awk c d1.1),by simp⟩
  have a1 : atP firstP (c :: r) 0 = false:=hf
  have a2 : atP digitP (c :: r) 0 = true:=d1.1
  have a3 : atP firstP (c :: r) (c :: r).length = false:=by simp [atP]
  have hs : seg (c :: r) 0 (c :: r).length = c :: r:=by simp [seg]
  unfold tokL
  rw [a1,a2]
  simp only [Bool.false_eq_true,if_false,if_true]
  unfold numL
  rw [he,hs,d2,a3,if_neg,if_neg (by simp),if_neg (by omega)]
  rintro ⟨e1,e2⟩
  rcases d4 with h | h
  · exact h e1
  · have:=hz h
    rw [this] at e2; simp at e2
where
  digit_first : ∀ b : UInt8,digitP b = true → firstP b = false:=byte_all (by decide +kernel)
theorem str_tok {s : List UInt8} (h : s.length ≤ 1024) : tokL (quoteL s) 0 = some (3,s,0,(quoteL s).length) ∧ Awk (quoteL s) ∧ quoteL s ≠ []:=by
 have h1:=tokL_quoted s
 rw [if_pos h] at h1
 have h2:=skip_quoted s
 refine ⟨h1,?_,by simp [quoteL]⟩
 unfold skipTo at h2
 simpa [Awk] using h2
/-- Words' tokens are as Scan tells them. -/
theorem clw : Clw quoteL clsW where
  ma:=fun s hs => cls_of (marks_tok s hs).1
  wd:=fun s hs => cls_of (words_tok s hs).1
  nm:=fun _ hs => cls_of (name_tok hs).1
  nu:=fun _ h0 h1 => cls_of (num_tok h0 h1).1
  st:=fun _ hs => cls_of (str_tok hs).1
/-- Words, as they are laid out. -/
def lay : List Wd → List UInt8
  | [] => []
  | w :: ws => w ++ (if endsB w then 10 :: lay ws else if ws.isEmpty then [] else 32 :: lay ws)
theorem puts_ge : ∀ (ws : List Wd) (s : PS),s.1.length ≤ (puts s ws).1.length
  | [],_ => Nat.le_refl _
  | w :: ws,s => by
   rw [puts_cons]
   refine Nat.le_trans ?_ (puts_ge ws _)
   unfold put1
   split
   · exact Nat.le_refl _
   · simp only [List.length_append]; omega
theorem puts_lay : ∀ (ws : List Wd) (s : PS),(puts s ws).1.length ≤ 65536 → (puts s ws).1 = s.1 ++ (if ws.isEmpty then [] else (if s.2 then [32] else []) ++ lay ws)
  | [],s,_ => by simp [puts_nil]
  | w :: ws,s,h => by
   rw [puts_cons] at h ⊢
   have h1:=puts_ge ws (put1 s w)
   have h0 : ¬ 65536 < s.1.length:=fun hc => by
    unfold put1 at h1 h
    rw [if_pos hc] at h1 h
    omega
   rw [puts_lay ws _ h]
   unfold put1
   rw [if_neg h0]
   cases he : endsB w <;> cases hw : ws with
   | nil => simp [lay,he]
   | cons x r => simp [lay,he]
/-- A token's place, so much further on. -/
def mvTk (k : Nat) (u : TkA) : TkA:=(u.1,u.2.1,u.2.2.1,u.2.2.2 + k)
theorem run_move (P t : List UInt8) : ∀ (us : List TkA) (b : Nat),Run t b us → Run (P ++ t) (P.length + b) (us.map (mvTk P.length))
  | [],b,h => by
   have h' : t.length ≤ b:=h
   show (P ++ t).length ≤ P.length + b
   rw [List.length_append]; omega
  | u :: us,b,h => by
   obtain ⟨h1,hb,e,ht,h2⟩:=h
   have hd : ∀ k,(P ++ t).drop (P.length + k) = t.drop k:=fun k => by rw [List.drop_append]; simp
   refine ⟨by show u.2.2.2 + P.length = P.length + b; omega,by rw [List.length_append]; omega,P.length + e,?_,?_⟩
   · rw [tokL_drop,hd]
     rw [tokL_drop] at ht
     cases hy : tokL (t.drop b) 0 with
     | none => rw [hy] at ht; cases ht
     | some q =>
      obtain ⟨kd',t',n',e'⟩:=q
      rw [hy] at ht
      simp only [shT] at ht ⊢
      injection ht with ht
      injection ht with q1 ht
      injection ht with q2 ht
      injection ht with q3 q4
      rw [q1,q2,q3,← q4,← Nat.add_assoc]; rfl
   · have : skipTo (P ++ t) (P.length + e) = P.length + skipTo t e:=by unfold skipTo; rw [hd]; omega
     rw [this]
     exact run_move P t us _ h2
def layT : List Wd → List TkA
  | [] => []
  | w :: ws => ((clsW w).1,(clsW w).2.1,(clsW w).2.2,0) :: (layT ws).map (mvTk (w.length + 1))
theorem layT_len : ∀ ws,(layT ws).length = ws.length
  | [] => rfl
  | w :: ws => by simp [layT,layT_len ws]
theorem awk_lay {ws : List Wd} (h : ∀ w ∈ ws,Wok w) : skipN false (lay ws) = 0:=by
 match ws,h with
 | [],_ => rfl
 | w :: ws,h =>
  have hw:=h w (by simp)
  have:=awk_cut (y:=w) (m:=w.length) (r:=if endsB w then 10 :: lay ws else if ws.isEmpty then [] else 32 :: lay ws) (by
    split
    · exact Ends.row _
    · split
      · exact Ends.nil
      · exact Ends.blank _) (List.length_pos_iff.2 hw.ne) hw.ne hw.awk
  rw [List.take_length] at this
  exact this
theorem run_lay : ∀ ws : List Wd,(∀ w ∈ ws,Wok w) → Run (lay ws) 0 (layT ws)
  | [],_ => Nat.zero_le _
  | w :: ws,h => by
   have hw:=h w (by simp)
   have hr:=fun x hx => h x (List.mem_cons_of_mem _ hx)
   have hp:=List.length_pos_iff.2 hw.ne
   have hE : Ends (if endsB w then 10 :: lay ws else if ws.isEmpty then [] else 32 :: lay ws):=by
    split
    · exact Ends.row _
    · split
      · exact Ends.nil
      · exact Ends.blank _
   have ht:=tokL_cut (m:=w.length) hE hw.ne hw.tok (Nat.le_refl _)
   rw [List.take_length] at ht
   refine ⟨rfl,by simp only [lay,List.length_append]; omega,w.length,ht,?_⟩
   have hs : ∀ r : List UInt8,skipTo (w ++ r) w.length = w.length + skipN false r:=fun r => by unfold skipTo; simp
   show Run (w ++ _) (skipTo (w ++ _) w.length) _
   rw [hs]
   by_cases he : endsB w = true
   · rw [if_pos he]
     have e1 : skipN false (10 :: lay ws) = 1:=by
      show (if blankP 10 = true then skipN false (lay ws) + 1 else _) = 1
      rw [if_pos (by decide),awk_lay hr]
     have:=run_move (w ++ [10]) (lay ws) _ 0 (run_lay ws hr)
     rw [e1]
     simpa [List.append_assoc] using this
   · rw [if_neg he]
     cases ws with
     | nil => simp [layT,Run]
     | cons x r =>
      rw [if_neg (by simp)]
      have e1 : skipN false (32 :: lay (x :: r)) = 1:=by
       show (if blankP 32 = true then skipN false (lay (x :: r)) + 1 else _) = 1
       rw [if_pos (by decide),awk_lay hr]
      have:=run_move (w ++ [32]) (lay (x :: r)) _ 0 (run_lay (x :: r) hr)
      rw [e1]
      simpa [List.append_assoc] using this
theorem scanF_full (l : List UInt8) : ∀ (us : List TkA) (f a : Nat) (acc : List TkA),l.length - a < f → acc.length ≤ 20000 → 20000 < acc.length + us.length → Run l a us → (0 < acc.length → 0 < a) → ∃ p,scanF l f a acc = ([],p,4) ∧ 0 < p
  | [],f,a,acc,_,h1,h2,_,_ => by simp at h2; omega
  | u :: us,f,a,acc,hf,h1,h2,h,h0 => by
   obtain ⟨h3,ha,e,ht,h4⟩:=h
   obtain ⟨f,rfl⟩ : ∃ g,f = g + 1:=⟨f - 1,by omega⟩
   have he:=tokL_end ha ht
   have hs:=skipTo_ge l e
   by_cases hl : acc.length = 20000
   · exact ⟨a,scanF_large (Nat.succ_pos _) ha hl,h0 (by omega)⟩
   · rw [scanF_step ha hl ht]
     exact scanF_full l us f _ _ (by omega) (by simp; omega) (by simp at h2 ⊢; omega) h4 (fun _ => by omega)
theorem at_words : ∀ (ws : List Wd) (us pre post : List Tk),us.map (fun u => (u.1,u.2.1,u.2.2.1)) = ws.map clsW → At clsW (pre ++ us ++ post) pre.length ws
  | [],_,_,_,_ => trivial
  | w :: ws,[],_,_,h => by simp at h
  | w :: ws,u :: us,pre,post,h => by
   simp only [List.map_cons,List.cons.injEq] at h
   have ht : tkA (pre ++ u :: us ++ post) pre.length = u:=by simp [tkA,List.getD_eq_getElem?_getD]
   refine ⟨⟨by simp,?_,?_,?_⟩,?_⟩
   · rw [← h.1,kindA,ht]
   · rw [← h.1,textA,ht]
   · rw [← h.1,numA,ht]
   · have:=at_words ws us (pre ++ [u]) post h.2
     simpa using this
theorem layT_map : ∀ ws,(layT ws).map (fun u => (u.1,u.2.1,u.2.2.1)) = ws.map clsW
  | [] => rfl
  | w :: ws => by
   have e : (fun u : TkA => (u.1,u.2.1,u.2.2.1)) ∘ mvTk (w.length + 1) = fun u => (u.1,u.2.1,u.2.2.1):=rfl
   simp [layT,e,layT_map ws]
end Go.Proofs.YtffnaknidofobaaGreatDoor

namespace Go.Proofs.YtffnaknidofobaaGreatDoor
/-- All of these are words. -/
def Wkb (ws : List Wd) : Prop:=∀ w ∈ ws,Wok w
theorem Wkb.nil : Wkb []:=fun _ h => by cases h
theorem Wkb.app {a b : List Wd} (h1 : Wkb a) (h2 : Wkb b) : Wkb (a ++ b):=fun w h => (List.mem_append.1 h).elim (h1 w) (h2 w)
theorem Wkb.cons {w : Wd} {b : List Wd} (h1 : Wok w) (h2 : Wkb b) : Wkb (w :: b):=fun x h => (List.mem_cons.1 h).elim (fun e => e ▸ h1) (h2 x)
theorem Wkb.lit {w : Wd} {b : List Wd} (h1 : w ∈ marksL ++ wordsL) (h2 : Wkb b) : Wkb (w :: b):=.cons (lit_ok h1) h2
theorem Wkb.flat {f : Tr → List Wd} {ts : List Tr} (h : ∀ t ∈ ts,Wkb (f t)) : Wkb (ts.flatMap f):=fun w hw => by
 obtain ⟨t,ht,hw⟩:=List.mem_flatMap.1 hw
 exact h t ht w hw
theorem Wkb.commas {f : Tr → List Wd} {ts : List Tr} (h : ∀ t ∈ ts,Wkb (f t)) : Wkb (commasT f ts):=by
 match ts,h with
 | [],_ => exact .nil
 | t :: ts,h => exact .app (h t (by simp)) (.flat fun u hu => .lit (by decide) (h u (by simp [hu])))
theorem Wkb.listed {f : Tr → List Wd} {ts : List Tr} {o s : Wd} (ho : o ∈ marksL ++ wordsL) (hs : s ∈ marksL ++ wordsL) (h : ∀ t ∈ ts,Wkb (f t)) : Wkb (listedT o s f ts):=.app (.lit ho .nil) (.app (.commas h) (.lit hs .nil))
theorem Wkb.members {f : Tr → List Wd} {ts : List Tr} (h : ∀ t ∈ ts,Wkb (f t)) : Wkb (membersT f ts):=.app (.lit (by decide) .nil) (.app (.flat h) (.lit (by decide) .nil))
theorem word_ok {s : Wd} (h : nameP s = true) : Wok s:=.of (name_tok h).2.2 (name_tok h).1 (name_tok h).2.1
theorem Wkb.name {s : Wd} {b : List Wd} (h : nameP s = true) (h2 : Wkb b) : Wkb (s :: b):=.cons (word_ok h) h2
theorem Wkb.func {f g : Tr → List Wd} {t : Tr} {p q : Tr → Bool} (hP : partedB t.kids t.num p q = true) (hf : ∀ k ∈ t.kids,p k = true → Wkb (f k)) (hg : ∀ k ∈ t.kids,q k = true → Wkb (g k)) : Wkb (funcT f g t):=by
 simp only [partedB,Bool.and_eq_true,List.all_eq_true] at hP
 refine .app (.listed (by decide) (by decide) fun k hk => hf k (List.mem_of_mem_take hk) (hP.2.2.1 k hk)) ?_
 split
 · exact .listed (by decide) (by decide) fun k hk => hg k (List.mem_of_mem_drop hk) (hP.2.2.2 k hk)
 · exact .flat fun k hk => hg k (List.mem_of_mem_drop hk) (hP.2.2.2 k hk)
section
variable {n : Nat} {t : Tr}
theorem wk_typ : ∀ (n : Nat) (t : Tr),snd n .typ t = true → Wkb (tks quoteL n .typ t)
  | 0,_,h => by simp [snd] at h
  | n + 1,.mk k s v ks,h => by
   by_cases e10 : k = 10
   · subst e10
     simp [snd,typB,namedT,Tr.kind,Tr.text,Tr.num,Tr.kids] at h
     exact .name h.1.2 .nil
   by_cases e11 : k = 11
   · subst e11
     simp [snd,typB,bareT,Tr.kind,Tr.text,Tr.num,Tr.kids] at h
     obtain ⟨y,rfl,hy⟩:=row1B h.2
     exact .lit (w:=[42]) (by decide) (wk_typ n y hy)
   by_cases e12 : k = 12
   · subst e12
     simp [snd,typB,bareT,Tr.kind,Tr.text,Tr.num,Tr.kids] at h
     obtain ⟨y,rfl,hy⟩:=row1B h.2
     exact .lit (w:=[91]) (by decide) (.lit (w:=[93]) (by decide) (wk_typ n y hy))
   by_cases e13 : k = 13
   · subst e13
     simp [snd,typB,numberedT,Tr.kind,Tr.text,Tr.num,Tr.kids] at h
     exact .lit (w:=[102,117,110,99]) (by decide) (.func (t:=.mk 13 s v ks) h.2 (fun x _ hx => wk_typ n x hx) (fun x _ hx => wk_typ n x hx))
   simp [snd,typB,Tr.kind,e10,e11,e12,e13] at h
theorem wk_par (h : snd n .par t = true) : Wkb (tks quoteL n .par t):=by
 match n,h with
 | 0,h => simp [snd] at h
 | n + 1,h =>
  obtain ⟨s,y,rfl,hn,hy⟩:=par_inv (show parB (snd n) t = true from h)
  exact .name hn (wk_typ n y hy)
theorem wk_sig (h : snd n .sig t = true) : Wkb (tks quoteL n .sig t):=by
 match n,h with
 | 0,h => simp [snd] at h
 | n + 1,h =>
  obtain ⟨_,_,h3⟩:=sig_inv (show sigB (snd n) t = true from h)
  exact .func h3 (fun x _ hx => wk_par hx) (fun x _ hx => wk_typ n x hx)
end
/-- The words of blocks, statements and expressions. -/
structure WkAll (n : Nat) : Prop where
  blk : ∀ t,snd n .blk t = true → nmT n t → Wkb (tks quoteL n .blk t)
  els : ∀ t,snd n .els t = true → nmT n t → Wkb (tks quoteL n .els t)
  stm : ∀ t,snd n .stm t = true → nmT n t → Wkb (tks quoteL n .stm t)
  exp : ∀ t,snd n .exp t = true → nmT n t → Wkb (tks quoteL n .exp t)
section
variable {n : Nat} {t : Tr}
theorem wk_exp (I : WkAll n) (t : Tr) (h : snd (n + 1) .exp t = true) (hn : nmT (n + 1) t) : Wkb (tks quoteL (n + 1) .exp t):=by
 have hc:=exp_cases (show expB (snd n) t = true from h)
 have hk:=hn.2
 have h1:=hn.1
 clear h hn
 have L : ∀ {w : Wd},w ∈ marksL ++ wordsL → Wkb [w]:=fun h => .lit h .nil
 cases hc with
 | int k h0 => exact .cons (.of (num_tok h0 h1).2.2 (num_tok h0 h1).1 (num_tok h0 h1).2.1) .nil
 | str s h0 => exact .cons (.of (str_tok h0).2.2 (str_tok h0).1 (str_tok h0).2.1) .nil
 | tt => exact L (w:=[116,114,117,101]) (by decide)
 | ff => exact L (w:=[102,97,108,115,101]) (by decide)
 | nil => exact L (w:=[110,105,108]) (by decide)
 | name s h0 => exact .name h0 .nil
 | lit s ks h0 hx =>
  show Wkb ([[40],s] ++ (listedT [123] [125] (tks quoteL n .exp) ks ++ [[41]]))
  exact .app (.lit (by decide) (.name h0 .nil)) (.app (.listed (by decide) (by decide) fun k h => I.exp k (hx k h) (hk k h)) (L (by decide)))
 | list x ks hx hx2 =>
  show Wkb ([[91],[93]] ++ (tks quoteL n .typ x ++ listedT [123] [125] (tks quoteL n .exp) ks))
  exact .app (.lit (by decide) (L (by decide))) (.app (wk_typ n x hx) (.listed (by decide) (by decide) fun k h => I.exp k (hx2 k h) (hk k (List.mem_cons_of_mem _ h))))
 | func x y hx hy =>
  show Wkb ([[102,117,110,99]] ++ (tks quoteL n .sig x ++ tks quoteL n .blk y))
  exact .app (L (by decide)) (.app (wk_sig hx) (I.blk y hy (hk y (by simp [Tr.kids]))))
 | una s x h0 hx =>
  show Wkb ([[40],s] ++ (tks quoteL n .exp x ++ [[41]]))
  exact .app (.lit (by decide) (L (List.mem_append.2 (.inl (prefix_mem h0))))) (.app (I.exp x hx (hk x (by simp [Tr.kids]))) (L (by decide)))
 | bin s x y h0 hx hy =>
  show Wkb ([[40]] ++ (tks quoteL n .exp x ++ ([s] ++ (tks quoteL n .exp y ++ [[41]]))))
  exact .app (L (by decide)) (.app (I.exp x hx (hk x (by simp [Tr.kids]))) (.app (L (List.mem_append.2 (.inl (rank_mem h0).1))) (.app (I.exp y hy (hk y (by simp [Tr.kids]))) (L (by decide)))))
 | sel s x h0 hx => exact .app (b:=[[46],s]) (I.exp x hx (hk x (by simp [Tr.kids]))) (.lit (by decide) (.name h0 .nil))
 | index x y hx hy =>
  have hT : tks quoteL (n + 1) .exp (.mk 49 [] 0 [x,y]) = tks quoteL n .exp x ++ ([[91]] ++ (tks quoteL n .exp y ++ [[93]])):=by simp [tks,expT,behT,listedT,commasT,Tr.kind,Tr.kids,kidT]
  rw [hT]
  exact .app (I.exp x hx (hk x (by simp [Tr.kids]))) (.app (L (by decide)) (.app (I.exp y hy (hk y (by simp [Tr.kids]))) (L (by decide))))
 | cut0 x hx =>
  have hT : tks quoteL (n + 1) .exp (.mk 50 [] 0 [x]) = tks quoteL n .exp x ++ [[91],[58],[93]]:=by simp [tks,expT,behT,Tr.kind,Tr.kids,Tr.num,kidT]
  rw [hT]
  exact .app (I.exp x hx (hk x (by simp [Tr.kids]))) (.lit (by decide) (.lit (by decide) (L (by decide))))
 | cut1 x y hx hy =>
  have hT : tks quoteL (n + 1) .exp (.mk 50 [] 1 [x,y]) = tks quoteL n .exp x ++ ([[91]] ++ (tks quoteL n .exp y ++ [[58],[93]])):=by simp [tks,expT,behT,Tr.kind,Tr.kids,Tr.num,kidT]
  rw [hT]
  exact .app (I.exp x hx (hk x (by simp [Tr.kids]))) (.app (L (by decide)) (.app (I.exp y hy (hk y (by simp [Tr.kids]))) (.lit (by decide) (L (by decide)))))
 | cut2 x y hx hy =>
  have hT : tks quoteL (n + 1) .exp (.mk 50 [] 2 [x,y]) = tks quoteL n .exp x ++ ([[91],[58]] ++ (tks quoteL n .exp y ++ [[93]])):=by simp [tks,expT,behT,Tr.kind,Tr.kids,Tr.num,kidT]
  rw [hT]
  exact .app (I.exp x hx (hk x (by simp [Tr.kids]))) (.app (.lit (by decide) (L (by decide))) (.app (I.exp y hy (hk y (by simp [Tr.kids]))) (L (by decide))))
 | cut3 x y z hx hy hz =>
  have hT : tks quoteL (n + 1) .exp (.mk 50 [] 3 [x,y,z]) = tks quoteL n .exp x ++ ([[91]] ++ (tks quoteL n .exp y ++ ([[58]] ++ (tks quoteL n .exp z ++ [[93]])))):=by simp [tks,expT,behT,Tr.kind,Tr.kids,Tr.num,kidT]
  rw [hT]
  exact .app (I.exp x hx (hk x (by simp [Tr.kids]))) (.app (L (by decide)) (.app (I.exp y hy (hk y (by simp [Tr.kids]))) (.app (L (by decide)) (.app (I.exp z hz (hk z (by simp [Tr.kids]))) (L (by decide))))))
 | call x ks hx hx2 => exact .app (b:=listedT [40] [41] (tks quoteL n .exp) ks) (I.exp x hx (hk x (by simp [Tr.kids]))) (.listed (by decide) (by decide) fun k h => I.exp k (hx2 k h) (hk k (List.mem_cons_of_mem _ h)))
theorem wk_if (I : WkAll n) (h : ifB (snd n) t = true) (hn : nmT (n + 1) t) : Wkb (ifT (tks quoteL n) t):=by
 have hk:=hn.2
 have L : ∀ {w : Wd},w ∈ marksL ++ wordsL → Wkb [w]:=fun h => .lit h .nil
 rcases if_inv h with ⟨x,y,rfl,hx,hy⟩ | ⟨x,y,z,rfl,hx,hy,hz⟩
 · have hT : ifT (tks quoteL n) (.mk 25 [] 0 [x,y]) = [[105,102]] ++ (tks quoteL n .exp x ++ tks quoteL n .blk y):=by simp [ifT,Tr.kids,kidT]
   rw [hT]
   exact .app (L (by decide)) (.app (I.exp x hx (hk x (by simp [Tr.kids]))) (I.blk y hy (hk y (by simp [Tr.kids]))))
 · have hT : ifT (tks quoteL n) (.mk 25 [] 0 [x,y,z]) = [[105,102]] ++ (tks quoteL n .exp x ++ (tks quoteL n .blk y ++ ([[101,108,115,101]] ++ tks quoteL n .els z))):=by simp [ifT,Tr.kids,kidT]
   rw [hT]
   exact .app (L (by decide)) (.app (I.exp x hx (hk x (by simp [Tr.kids]))) (.app (I.blk y hy (hk y (by simp [Tr.kids]))) (.app (L (by decide)) (I.els z hz (hk z (by simp [Tr.kids]))))))
theorem wk_blk (I : WkAll n) (h : blkB (snd n) t = true) (hn : nmT (n + 1) t) : Wkb (blkT (tks quoteL n) t):=by
 obtain ⟨ks,rfl,hk⟩:=blk_inv h
 exact .members fun k h => I.stm k (hk k h) (hn.2 k h)
theorem wk_stm (I : WkAll n) (t : Tr) (h : snd (n + 1) .stm t = true) (hn : nmT (n + 1) t) : Wkb (tks quoteL (n + 1) .stm t):=by
 have h' : stmB (snd n) t = true:=h
 have hc:=stm_cases h'
 have hk:=hn.2
 have L : ∀ {w : Wd},w ∈ marksL ++ wordsL → Wkb [w]:=fun h => .lit h .nil
 cases hc with
 | blk ks hx => exact .members fun k h => I.stm k (hx k h) (hk k h)
 | if2 x y hx hy => exact wk_if I (t:=.mk 25 [] 0 [x,y]) (by simpa [stmB,Tr.kind] using h') hn
 | if3 x y z hx hy hz => exact wk_if I (t:=.mk 25 [] 0 [x,y,z]) (by simpa [stmB,Tr.kind] using h') hn
 | var1 s x h0 hx =>
  have hT : tks quoteL (n + 1) .stm (.mk 21 s 0 [x]) = [[118,97,114],s] ++ (tks quoteL n .typ x ++ [[59]]):=by simp [tks,stmT,simT,varT,Tr.kind,Tr.kids,Tr.text,kidT]
  rw [hT]
  exact .app (.lit (by decide) (.name h0 .nil)) (.app (wk_typ n x hx) (L (by decide)))
 | var2 s x y h0 hx hy =>
  have hT : tks quoteL (n + 1) .stm (.mk 21 s 0 [x,y]) = [[118,97,114],s] ++ (tks quoteL n .typ x ++ ([[61]] ++ (tks quoteL n .exp y ++ [[59]]))):=by simp [tks,stmT,simT,varT,Tr.kind,Tr.kids,Tr.text,kidT]
  rw [hT]
  exact .app (.lit (by decide) (.name h0 .nil)) (.app (wk_typ n x hx) (.app (L (by decide)) (.app (I.exp y hy (hk y (by simp [Tr.kids]))) (L (by decide)))))
 | defn a b ha hb hp hx =>
  have hT : tks quoteL (n + 1) .stm (.mk 22 [] a.length (a ++ b)) = commasT (tks quoteL n .exp) a ++ ([[58,61]] ++ (commasT (tks quoteL n .exp) b ++ [[59]])):=by simp [tks,stmT,simT,asgT,Tr.kind,Tr.num,Tr.kids]
  rw [hT]
  exact .app (.commas fun k h => I.exp k (hx k (by simp [h])) (hk k (by simp [Tr.kids,h]))) (.app (L (by decide)) (.app (.commas fun k h => I.exp k (hx k (by simp [h])) (hk k (by simp [Tr.kids,h]))) (L (by decide))))
 | asgn a b ha hb hp hx =>
  have hT : tks quoteL (n + 1) .stm (.mk 23 [] a.length (a ++ b)) = commasT (tks quoteL n .exp) a ++ ([[61]] ++ (commasT (tks quoteL n .exp) b ++ [[59]])):=by simp [tks,stmT,simT,asgT,Tr.kind,Tr.num,Tr.kids]
  rw [hT]
  exact .app (.commas fun k h => I.exp k (hx k (by simp [h])) (hk k (by simp [Tr.kids,h]))) (.app (L (by decide)) (.app (.commas fun k h => I.exp k (hx k (by simp [h])) (hk k (by simp [Tr.kids,h]))) (L (by decide))))
 | call x h0 hx => exact .app (b:=[[59]]) (I.exp x hx (hk x (by simp [Tr.kids]))) (L (by decide))
 | for1 y hy =>
  have hT : tks quoteL (n + 1) .stm (.mk 26 [] 0 [y]) = [[102,111,114]] ++ tks quoteL n .blk y:=by simp [tks,stmT,forT,Tr.kind,Tr.kids,kidT]
  rw [hT]
  exact .app (L (by decide)) (I.blk y hy (hk y (by simp [Tr.kids])))
 | for2 x y hx hy =>
  have hT : tks quoteL (n + 1) .stm (.mk 26 [] 0 [x,y]) = [[102,111,114]] ++ (tks quoteL n .exp x ++ tks quoteL n .blk y):=by simp [tks,stmT,forT,Tr.kind,Tr.kids,kidT]
  rw [hT]
  exact .app (L (by decide)) (.app (I.exp x hx (hk x (by simp [Tr.kids]))) (I.blk y hy (hk y (by simp [Tr.kids]))))
 | ret ks hx =>
  have hT : tks quoteL (n + 1) .stm (.mk 27 [] 0 ks) = [[114,101,116,117,114,110]] ++ (commasT (tks quoteL n .exp) ks ++ [[59]]):=by simp [tks,stmT,simT,Tr.kind,Tr.kids]
  rw [hT]
  exact .app (L (by decide)) (.app (.commas fun k h => I.exp k (hx k h) (hk k h)) (L (by decide)))
 | brk => exact .lit (w:=[98,114,101,97,107]) (by decide) (L (w:=[59]) (by decide))
 | nxt => exact .lit (w:=[99,111,110,116,105,110,117,101]) (by decide) (L (w:=[59]) (by decide))
theorem wk_all : ∀ n,WkAll n
  | 0 => ⟨fun _ h => (by cases h),fun _ h => (by cases h),fun _ h => (by cases h),fun _ h => (by cases h)⟩
  | n + 1 => have I:=wk_all n
    ⟨fun _ h hn => wk_blk I h hn,fun t h hn => by
     have h' : elsB (snd n) t = true:=h
     simp only [elsB,Bool.or_eq_true] at h'
     show Wkb (elsT (tks quoteL n) t)
     unfold elsT
     split
     · rename_i e
       rcases h' with h' | h'
       · exact wk_blk I h' hn
       · simp only [ifB,Bool.and_eq_true,beq_iff_eq] at h' e; omega
     · rename_i e
       rcases h' with h' | h'
       · simp only [blkB,Bool.and_eq_true] at h'; exact absurd h'.1 e
       · exact wk_if I h' hn,wk_stm I,wk_exp I⟩
theorem wk_dec (h : decB n t = true) (hn : nmT (n + 2) t) : Wkb (decT quoteL n t):=by
 obtain ⟨k,s,v,ks⟩:=t
 by_cases e2 : k = 2
 · subst e2
   simp [decB,namedT,Tr.kind,Tr.text,Tr.num,Tr.kids] at h
   refine .app (a:=[[116,121,112,101],s,[115,116,114,117,99,116]]) (.lit (by decide) (.name h.1.2 (.lit (by decide) .nil))) (.members fun k hk => ?_)
   have:=h.2 k hk
   simp only [fldB,namedT,Bool.and_eq_true] at this
   obtain ⟨y,e,hy⟩:=row1B this.2.2
   have e' : kidT k 0 = y:=by simp [kidT,e]
   exact .app (.name this.2.1.2 .nil) (.app (by rw [e']; exact wk_typ n y hy) (.lit (by decide) .nil))
 by_cases e3 : k = 3
 · subst e3
   simp [decB,namedT,Tr.kind,Tr.text,Tr.num,Tr.kids] at h
   refine .app (a:=[[116,121,112,101],s,[105,110,116,101,114,102,97,99,101]]) (.lit (by decide) (.name h.1.2 (.lit (by decide) .nil))) (.members fun k hk => ?_)
   have:=h.2 k hk
   simp only [metB,namedT,Bool.and_eq_true] at this
   obtain ⟨y,e,hy⟩:=row1B this.2.2
   have e' : kidT k 0 = y:=by simp [kidT,e]
   exact .app (.name this.2.1.2 .nil) (.app (by rw [e']; exact wk_sig hy) (.lit (by decide) .nil))
 by_cases e4 : k = 4
 · subst e4
   simp [decB,namedT,Tr.kind,Tr.text,Tr.num,Tr.kids] at h
   obtain ⟨x,y,rfl,hx,hy⟩:=row2B h.2
   exact .app (a:=[[102,117,110,99],s]) (.lit (by decide) (.name h.1.2 .nil)) (.app (wk_sig hx) ((wk_all (n + 1)).blk y hy (hn.2 y (by simp [Tr.kids]))))
 by_cases e5 : k = 5
 · subst e5
   simp [decB,namedT,Tr.kind,Tr.text,Tr.num,Tr.kids] at h
   obtain ⟨z,x,y,rfl,hz,hx,hy⟩:=row3B h.2
   obtain ⟨u,w,rfl,hu,hw,hT0⟩:=rec_inv (q:=quoteL) hz
   refine .app (a:=[[102,117,110,99]]) (.lit (by decide) .nil) (.app (a:=listedT [40] [41] (parT (tks quoteL n)) [.mk 8 u 0 [.mk 11 [] 0 [.mk 10 w 0 []]]]) ?_ (.app (a:=[s]) (.name h.1.2 .nil) (.app (wk_sig hx) ((wk_all (n + 1)).blk y hy (hn.2 y (by simp [Tr.kids]))))))
   rw [hT0]
   exact .lit (by decide) (.name hu (.lit (by decide) (.name hw (.lit (by decide) .nil))))
 simp [decB,Tr.kind,e2,e3,e4,e5] at h
theorem wk_prg (h : prgB t = true) (hn : nmT 100 t) : Wkb (prgT quoteL t):=by
 simp only [prgB,Bool.and_eq_true,List.all_eq_true] at h
 exact .flat fun k hk => wk_dec (h.2.2 k hk) (hn.2 k hk)
/-- A program's words, laid out, are read as that program. -/
theorem lay_back (hs : soundT t = true) (hn : nmT 100 t) (hl : (lay (prgT quoteL t)).length ≤ 65536) :
    parseP (lay (prgT quoteL t)) = (some t,0,0) ∨ ∃ a,parseP (lay (prgT quoteL t)) = (none,a,4) ∧ 0 < a:=by
  simp only [soundT,Bool.and_eq_true] at hs
  have hw:=wk_prg hs.2 hn
  have hr:=run_lay _ hw
  have h0 : skipTo (lay (prgT quoteL t)) 0 = 0:=by unfold skipTo; rw [List.drop_zero,awk_lay hw]
  by_cases hc : (prgT quoteL t).length ≤ 20000
  · left
    have e : scanRes (lay (prgT quoteL t)) = (layT (prgT quoteL t),0,0):=scan_of_run hl (by rw [layT_len]; exact hc) (by rw [h0]; exact hr)
    have hA:=at_words (prgT quoteL t) (layT (prgT quoteL t)) [] [(4,[],0,(lay (prgT quoteL t)).length)] (layT_map _)
    rw [List.nil_append] at hA
    have hz : isM (layT (prgT quoteL t) ++ [(4,[],0,(lay (prgT quoteL t)).length)]) (prgT quoteL t).length [] = true:=by
     have : tkA (layT (prgT quoteL t) ++ [(4,[],0,(lay (prgT quoteL t)).length)]) (prgT quoteL t).length = (4,[],0,(lay (prgT quoteL t)).length):=by
      rw [← layT_len (prgT quoteL t)]; simp [tkA,List.getD_eq_getElem?_getD]
     simp [isM,kindA,textA,this]
    have:=tree_back clw hs.2 hn hA hz
    unfold parseP
    rw [e]
    simp only [ne_eq,not_true_eq_false,if_false]
    rw [this]
    simp only [hs.1,if_true]
  · right
    obtain ⟨p,hp,h1⟩:=scanF_full (lay (prgT quoteL t)) (layT (prgT quoteL t)) ((lay (prgT quoteL t)).length + 1) 0 [] (by omega) (by simp) (by rw [layT_len]; simp; omega) hr (by simp)
    have e : scanRes (lay (prgT quoteL t)) = ([],p,4):=by unfold scanRes; rw [if_neg (by omega),h0,hp]
    exact ⟨p,by unfold parseP; rw [e]; simp,h1⟩
/-- A program's text is read as that program. -/
theorem text_back (hs : soundT t = true) (hn : nmT 100 t) (he : (textP t).2 = 0) : parseP (textP t).1 = (some t,0,0) ∨ ∃ a,parseP (textP t).1 = (none,a,4) ∧ 0 < a:=by
 unfold textP textR at he ⊢
 rw [if_pos hs] at he ⊢
 by_cases hl : 65536 < (puts ([],false) (prgT quoteL t)).1.length
 · rw [if_pos hl] at he; cases he
 · rw [if_neg hl]
   have:=puts_lay (prgT quoteL t) ([],false) (by omega)
   have e : (puts ([],false) (prgT quoteL t)).1 = lay (prgT quoteL t):=by
    rw [this]
    cases prgT quoteL t <;> simp [lay]
   rw [e] at hl ⊢
   exact lay_back hs hn (by omega)
end
end Go.Proofs.YtffnaknidofobaaGreatDoor
