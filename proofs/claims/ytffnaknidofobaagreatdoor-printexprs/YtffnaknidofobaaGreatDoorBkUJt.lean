/- An expression's text within the text of a statement: plain. -/
import Derived.Test.YtffnaknidofobaaGreatDoorBkSJt
namespace Go.Proofs.YtffnaknidofobaaGreatDoor
set_option maxRecDepth 20000 in
theorem pair_close : ∀ c : UInt8,pairP [c,40] = false ∧ pairP [c,41] = false ∧ pairP [c,59] = false:=byte_all (by decide +kernel)
/-- A word's token, whatever bracket or ; follows. -/
theorem tokL_close {w : Wd} {k n : Int} {t r : List UInt8} {c : UInt8} (hc : c = 40 ∨ c = 41 ∨ c = 59) (hne : w ≠ []) (h : tokL w 0 = some (k,t,n,w.length)) : tokL (w ++ c :: r) 0 = some (k,t,n,w.length):=by
 have hat : ∀ p,atP p (w ++ c :: r) 0 = atP p w 0:=by
  intro p
  match w,hne with
  | d :: w',_ => rfl
 have hin : innerP c = false:=by rcases hc with e | e | e <;> subst e <;> decide
 have hdg : digitP c = false:=by rcases hc with e | e | e <;> subst e <;> decide
 have hfi : firstP c = false:=by rcases hc with e | e | e <;> subst e <;> decide
 have all_of : ∀ {p : UInt8 → Bool},(w.takeWhile p).length = w.length → w.all p = true:=fun {p} hl => by
  have:=List.takeWhile_prefix (l:=w) p
  have e:=this.eq_of_length hl
  rw [← e]; simp
 unfold tokL at h ⊢
 rw [hat,hat,hat]
 by_cases h1 : atP firstP w 0 = true
 · rw [if_pos h1] at h ⊢
   unfold nameL at h ⊢
   rw [endOf_zero] at h ⊢
   by_cases h2 : 64 < (w.takeWhile innerP).length - 0
   · rw [if_pos h2] at h; cases h
   · rw [if_neg h2] at h
     have he : (w.takeWhile innerP).length = w.length:=by injection h with h; injection h with _ h; injection h with _ h; injection h
     rw [takeWhile_app innerP w c r (all_of he) hin]
     rw [he] at h h2
     rw [if_neg h2]
     have e1 : seg (w ++ c :: r) 0 w.length = seg w 0 w.length:=by simp [seg]
     rw [e1]; exact h
 · rw [if_neg h1] at h ⊢
   by_cases h2 : atP digitP w 0 = true
   · rw [if_pos h2] at h ⊢
     unfold numL at h ⊢
     have h0 : (w ++ c :: r)[0]? = w[0]?:=by
      match w,hne with
      | d :: w',_ => rfl
     rw [endOf_zero] at h ⊢
     rw [h0]
     by_cases h3 : w[0]? = some 48 ∧ 0 + 1 < (w.takeWhile digitP).length
     · rw [if_pos h3] at h; cases h
     · rw [if_neg h3] at h
       by_cases h4 : atP firstP w (w.takeWhile digitP).length = true
       · rw [if_pos h4] at h; cases h
       · rw [if_neg h4] at h
         by_cases h5 : 9223372036854775808 ≤ numOf (seg w 0 (w.takeWhile digitP).length)
         · rw [if_pos h5] at h; cases h
         · rw [if_neg h5] at h
           have he : (w.takeWhile digitP).length = w.length:=by injection h with h; injection h with _ h; injection h with _ h; injection h
           rw [takeWhile_app digitP w c r (all_of he) hdg]
           have h6 : atP firstP (w ++ c :: r) w.length = false:=by rw [at_len]; exact hfi
           have e1 : seg (w ++ c :: r) 0 w.length = seg w 0 w.length:=by simp [seg]
           rw [he] at h h3 h5
           rw [if_neg h3,h6,if_neg (by simp),e1,if_neg h5]
           exact h
   · rw [if_neg h2] at h ⊢
     by_cases h3 : atP quoteP w 0 = true
     · rw [if_pos h3] at h ⊢
       have:=textL_cut (m:=w.length) (r:=c :: r) hne h (Nat.le_refl _)
       rw [List.take_length] at this
       exact this
     · rw [if_neg h3] at h ⊢
       unfold markL at h ⊢
       rw [seg_zero,seg_zero,Nat.zero_add] at h ⊢
       match w,hne with
       | [d],_ =>
        have h4 : ¬ (2 ≤ [d].length ∧ pairP ([d].take 2) = true):=by rintro ⟨ha,_⟩; simp at ha
        rw [if_neg h4] at h
        have h5 : ¬ (2 ≤ ([d] ++ c :: r).length ∧ pairP (([d] ++ c :: r).take 2) = true):=by
         rintro ⟨_,hb⟩
         have hb' : pairP [d,c] = true:=hb
         have:=pair_close d
         rcases hc with e | e | e <;> subst e
         · rw [this.1] at hb'; cases hb'
         · rw [this.2.1] at hb'; cases hb'
         · rw [this.2.2] at hb'; cases hb'
        rw [if_neg h5]
        exact h
       | [d,d2],_ =>
        by_cases h4 : 2 ≤ [d,d2].length ∧ pairP ([d,d2].take 2) = true
        · rw [if_pos h4] at h
          have h5 : 2 ≤ ([d,d2] ++ c :: r).length ∧ pairP (([d,d2] ++ c :: r).take 2) = true:=⟨by simp,h4.2⟩
          rw [if_pos h5]; exact h
        · rw [if_neg h4] at h
          split at h
          · injection h with h; injection h with _ h; injection h with _ h; injection h with _ h; simp at h
          · cases h
       | d :: d2 :: d3 :: w',_ =>
        exfalso
        split at h
        · injection h with h; injection h with _ h; injection h with _ h; injection h with _ h; simp at h
        · split at h
          · injection h with h; injection h with _ h; injection h with _ h; injection h with _ h; simp at h
          · cases h
/-- Words with what stands behind each. -/
def layG : List (Wd × List UInt8) → List UInt8
  | [] => []
  | (w,g) :: r => w ++ (g ++ layG r)
def GoodL : List (Wd × List UInt8) → Prop
  | [] => True
  | (w,g) :: r => w ≠ [] ∧ tokL (w ++ (g ++ layG r)) 0 = some ((clsW w).1,(clsW w).2.1,(clsW w).2.2,w.length) ∧ skipN false (g ++ layG r) = g.length ∧ GoodL r
def layGT : List (Wd × List UInt8) → List TkA
  | [] => []
  | (w,g) :: r => ((clsW w).1,(clsW w).2.1,(clsW w).2.2,0) :: (layGT r).map (mvTk (w.length + g.length))
theorem layGT_len : ∀ ws,(layGT ws).length = ws.length
  | [] => rfl
  | (w,g) :: r => by simp [layGT,layGT_len r]
theorem layGT_map : ∀ ws,(layGT ws).map (fun u => (u.1,u.2.1,u.2.2.1)) = (ws.map (·.1)).map clsW
  | [] => rfl
  | (w,g) :: r => by
    have e : (fun u : TkA => (u.1,u.2.1,u.2.2.1)) ∘ mvTk (w.length + g.length) = fun u => (u.1,u.2.1,u.2.2.1):=rfl
    have ih:=layGT_map r
    rw [List.map_map] at ih
    simp [layGT,e,ih]
theorem run_layG : ∀ ws,GoodL ws → Run (layG ws) 0 (layGT ws)
  | [],_ => Nat.zero_le _
  | (w,g) :: r,h => by
    obtain ⟨hne,ht,hs,hr⟩:=h
    have hp:=List.length_pos_iff.2 hne
    refine ⟨rfl,by simp only [layG,List.length_append]; omega,w.length,ht,?_⟩
    have hs2 : skipTo (w ++ (g ++ layG r)) w.length = w.length + g.length:=by unfold skipTo; simp [hs]
    show Run (w ++ (g ++ layG r)) (skipTo (w ++ (g ++ layG r)) w.length) _
    rw [hs2]
    have:=run_move (w ++ g) (layG r) _ 0 (run_layG r hr)
    simpa [List.append_assoc] using this
theorem scan_layG {ws : List (Wd × List UInt8)} (hg : GoodL ws) (h0 : skipN false (layG ws) = 0) (hl : (layG ws).length ≤ 65536) :
    (ws.length ≤ 20000 ∧ scanRes (layG ws) = (layGT ws,0,0)) ∨ ∃ p,scanRes (layG ws) = ([],p,4) ∧ 0 < p:=by
  have hr:=run_layG ws hg
  have h1 : skipTo (layG ws) 0 = 0:=by unfold skipTo; rw [List.drop_zero,h0]
  by_cases hc : ws.length ≤ 20000
  · exact .inl ⟨hc,scan_of_run hl (by rw [layGT_len]; exact hc) (by rw [h1]; exact hr)⟩
  · obtain ⟨p,hp,h2⟩:=scanF_full (layG ws) (layGT ws) ((layG ws).length + 1) 0 [] (by omega) (by simp) (by rw [layGT_len]; simp; omega) hr (by simp)
    exact .inr ⟨p,by unfold scanRes; rw [if_neg (by omega),h1,hp],h2⟩
/-- The words of a text that was written. -/
def laid : List Wd → List (Wd × List UInt8)
  | [] => []
  | w :: ws => (w,if endsB w then [10] else if ws.isEmpty then [] else [32]) :: laid ws
theorem laid_fst : ∀ ws,(laid ws).map (·.1) = ws
  | [] => rfl
  | w :: ws => by simp [laid,laid_fst ws]
theorem layG_app : ∀ a b,layG (a ++ b) = layG a ++ layG b
  | [],_ => rfl
  | (w,g) :: r,b => by simp [layG,layG_app r b]
theorem layG_laid : ∀ ws,layG (laid ws) = lay ws
  | [] => rfl
  | w :: ws => by
   simp only [laid,layG,lay]
   congr 1
   split
   · rw [layG_laid ws]; rfl
   · split
     · rename_i h
       rw [List.isEmpty_iff.1 h]; rfl
     · rw [layG_laid ws]; rfl
/-- Something that may stand right behind a word. -/
def Clo (r : List UInt8) : Prop:=∃ c r',r = c :: r' ∧ (c = 40 ∨ c = 41 ∨ c = 59)
theorem Clo.awk {r : List UInt8} (h : Clo r) : skipN false r = 0:=by
 obtain ⟨c,r',rfl,h⟩:=h
 rcases h with e | e | e <;> subst e <;> exact awk_of (by decide)
theorem tok_fol {w : Wd} (hw : Wok w) {r : List UInt8} (hr : Ends r ∨ Clo r) : tokL (w ++ r) 0 = some ((clsW w).1,(clsW w).2.1,(clsW w).2.2,w.length):=by
 rcases hr with hr | ⟨c,r',rfl,hr⟩
 · have:=tokL_cut (m:=w.length) hr hw.ne hw.tok (Nat.le_refl _)
   rwa [List.take_length] at this
 · exact tokL_close hr hw.ne hw.tok
theorem awk_fol {w : Wd} (hw : Wok w) {r : List UInt8} (hr : Ends r ∨ Clo r) : skipN false (w ++ r) = 0:=by
 rcases hr with hr | ⟨c,r',rfl,hr⟩
 · have:=awk_cut (m:=w.length) hr (List.length_pos_iff.2 hw.ne) hw.ne hw.awk
   rwa [List.take_length] at this
 · have hne:=hw.ne
   have ha:=hw.awk
   match w,hne,ha with
   | [d],_,ha =>
    have ha' : (if blankP d = true then skipN false [] + 1 else if (d == 47 && ([] : List UInt8).head? == some 47) = true then skipN true [] + 1 else 0) = 0:=ha
    show (if blankP d = true then _ else if (d == 47 && (c :: r').head? == some 47) = true then _ else _) = _
    by_cases hb : blankP d = true
    · rw [if_pos hb] at ha'; simp at ha'
    · rw [if_neg hb,if_neg]
      rcases hr with e | e | e <;> subst e <;> simp
   | d :: d2 :: w',_,ha =>
    have ha' : (if blankP d = true then skipN false (d2 :: w') + 1 else if (d == 47 && (d2 :: w').head? == some 47) = true then skipN true (d2 :: w') + 1 else 0) = 0:=ha
    show (if blankP d = true then _ else if (d == 47 && (d2 :: (w' ++ c :: r')).head? == some 47) = true then _ else _) = _
    by_cases hb : blankP d = true
    · rw [if_pos hb] at ha'; omega
    · rw [if_neg hb] at ha' ⊢
      by_cases h2 : (d == 47 && (d2 :: w').head? == some 47) = true
      · rw [if_pos h2] at ha'; omega
      · rw [if_neg]; simpa using h2
/-- Good words, and no blank ahead of them. -/
def GoodA (r : List (Wd × List UInt8)) : Prop:=GoodL r ∧ skipN false (layG r) = 0
theorem good_blank {w : Wd} {r : List (Wd × List UInt8)} (hw : Wok w) (h : GoodA r) : GoodA ((w,[32]) :: r):=by
 refine ⟨⟨hw.ne,tok_fol hw (.inl (Ends.blank _)),?_,h.1⟩,awk_fol hw (.inl (Ends.blank _))⟩
 show (if blankP 32 = true then skipN false (layG r) + 1 else _) = 1
 rw [if_pos (by decide),h.2]
theorem good_close {w : Wd} {r : List (Wd × List UInt8)} (hw : Wok w) (hc : Clo (layG r)) (h : GoodA r) : GoodA ((w,[]) :: r) :=
  ⟨⟨hw.ne,tok_fol hw (.inr hc),h.2,h.1⟩,awk_fol hw (.inr hc)⟩
theorem good_end {w : Wd} (hw : Wok w) : GoodA [(w,[])]:=⟨⟨hw.ne,tok_fol hw (.inl Ends.nil),rfl,trivial⟩,awk_fol hw (.inl Ends.nil)⟩
set_option maxRecDepth 20000 in
theorem pair_open : ∀ c : UInt8,pairP [40,c] = false:=byte_all (by decide +kernel)
theorem tok_open (r : List UInt8) : tokL (40 :: r) 0 = some (4,[40],0,1):=by
 unfold tokL
 have a1 : atP firstP (40 :: r) 0 = false:=rfl
 have a2 : atP digitP (40 :: r) 0 = false:=rfl
 have a3 : atP quoteP (40 :: r) 0 = false:=rfl
 have a4 : atP singleP (40 :: r) 0 = true:=rfl
 rw [a1,a2,a3]
 simp only [Bool.false_eq_true,if_false]
 unfold markL
 have h5 : ¬ (0 + 2 ≤ (40 :: r).length ∧ pairP (seg (40 :: r) 0 (0 + 2)) = true):=by
  rintro ⟨ha,hb⟩
  match r,ha,hb with
  | [],ha,_ => simp at ha
  | c :: r,_,hb =>
   have hb' : pairP [40,c] = true:=hb
   rw [pair_open] at hb'; cases hb'
 rw [if_neg h5,if_pos a4]; rfl
theorem good_open {r : List (Wd × List UInt8)} (h : GoodA r) : GoodA (([40],[]) :: r):=by
 refine ⟨⟨by decide,?_,h.2,h.1⟩,?_⟩
 · rw [cls_of (marks_tok [40] (by decide)).1]; exact tok_open _
 · show (if blankP 40 = true then _ else if ((40 : UInt8) == 47 && (layG r).head? == some 47) = true then _ else _) = _
   rw [if_neg (by decide),if_neg (by simp)]
theorem good_laid {tl : List (Wd × List UInt8)} (ht : GoodL tl) (hc : Clo (layG tl)) : ∀ ws,Wkb ws → GoodL (laid ws ++ tl) ∧ skipN false (layG (laid ws ++ tl)) = 0
  | [],_ => ⟨ht,hc.awk⟩
  | w :: ws,h => by
   have hw:=h w (by simp)
   obtain ⟨ih,ia⟩:=good_laid ht hc ws fun x hx => h x (List.mem_cons_of_mem _ hx)
   have hE : Ends ((if endsB w then [10] else if ws.isEmpty then [] else [32]) ++ layG (laid ws ++ tl)) ∨ Clo ((if endsB w then [10] else if ws.isEmpty then [] else [32]) ++ layG (laid ws ++ tl)):=by
    split
    · exact .inl (Ends.row _)
    · split
      · rename_i he
        rw [List.isEmpty_iff.1 he]
        exact .inr hc
      · exact .inl (Ends.blank _)
   refine ⟨⟨hw.ne,tok_fol hw hE,?_,ih⟩,awk_fol hw hE⟩
   split
   · show (if blankP 10 = true then skipN false (layG (laid ws ++ tl)) + 1 else _) = 1
     rw [if_pos (by decide),ia]
   · split
     · simpa using ia
     · show (if blankP 32 = true then skipN false (layG (laid ws ++ tl)) + 1 else _) = 1
       rw [if_pos (by decide),ia]
end Go.Proofs.YtffnaknidofobaaGreatDoor

namespace Go.Proofs.YtffnaknidofobaaGreatDoor
/-- func f ( ) { return t ; } -/
def aroT (t : Tr) : Tr:=.mk 1 [] 0 [.mk 4 [102] 0 [.mk 7 [] 0 [],.mk 20 [] 0 [.mk 27 [] 0 [t]]]]
/-- Expr. -/
def exprP (t : Tr) : List UInt8 × Int:=if soundT (aroT t) then textR (puts ([],false) (tks quoteL 96 .exp t)) else ([],2)
theorem fname : nameP [102] = true:=by decide +kernel
theorem aro_exp {t : Tr} (h : soundT (aroT t) = true) : snd 96 .exp t = true:=by
 simp only [soundT,Bool.and_eq_true] at h
 have h2:=h.2
 simp only [prgB,aroT,Tr.kids,Bool.and_eq_true,List.all_eq_true] at h2
 have h3:=h2.2.2 _ (List.mem_singleton.2 rfl)
 simp only [decB,Tr.kind,Tr.kids] at h3
 have h4 : rowB [snd 98 .sig,snd 98 .blk] [.mk 7 [] 0 [],.mk 20 [] 0 [.mk 27 [] 0 [t]]] = true:=by
  have : (namedT (.mk 4 [102] 0 [.mk 7 [] 0 [],.mk 20 [] 0 [.mk 27 [] 0 [t]]]) && rowB [snd 98 .sig,snd 98 .blk] [.mk 7 [] 0 [],.mk 20 [] 0 [.mk 27 [] 0 [t]]]) = true:=h3
  rw [Bool.and_eq_true] at this; exact this.2
 obtain ⟨x,y,e,_,hy⟩:=row2B h4
 simp only [List.cons.injEq] at e
 obtain ⟨_,rfl,_⟩:=e
 obtain ⟨ks,e,hk⟩:=blk_inv (show blkB (snd 97) _ = true from hy)
 injection e with _ _ _ e
 have h5:=hk (.mk 27 [] 0 [t]) (by rw [← e]; simp)
 have hc:=stm_cases (show stmB (snd 96) _ = true from h5)
 cases hc with
 | ret ks hx => exact hx t (by simp)
theorem aro_words (t : Tr) : prgT quoteL (aroT t) = [[102,117,110,99],[102],[40],[41],[123],[114,101,116,117,114,110]] ++ (tks quoteL 96 .exp t ++ [[59],[125]]):=by
 have e : prgT quoteL (aroT t) = ([[102,117,110,99],[102]] ++ ((([[40]] ++ ([] ++ [[41]])) ++ []) ++ ([[123]] ++ (((([[114,101,116,117,114,110]] ++ (tks quoteL 96 .exp t ++ [])) ++ [[59]]) ++ []) ++ [[125]])))) ++ []:=rfl
 rw [e]
 simp only [List.append_nil,List.nil_append,List.cons_append,List.append_assoc]
theorem aro_nm {t : Tr} (h : nmT 96 t) : nmT 100 (aroT t) :=
  ⟨by show (0 : Int) ≤ _; decide,fun _ h1 => by
   rw [List.mem_singleton.1 h1]
   refine ⟨by show (0 : Int) ≤ _; decide,fun _ h2 => ?_⟩
   rcases List.mem_cons.1 h2 with e | e
   · rw [e]; exact ⟨by show (0 : Int) ≤ _; decide,fun _ h => by cases h⟩
   · rw [List.mem_singleton.1 e]
     refine ⟨by show (0 : Int) ≤ _; decide,fun _ h3 => ?_⟩
     rw [List.mem_singleton.1 h3]
     exact ⟨by show (0 : Int) ≤ _; decide,fun _ h4 => by rw [List.mem_singleton.1 h4]; exact h⟩⟩
section
variable {c : Wd → Int × List UInt8 × Int} {q : List UInt8 → Wd} {l : List Tk} {i j k m n : Nat} {t y : Tr}
theorem paren_expr (e : exprR (ps l m) false (j + 1) = .ok y k) (h0 : Lit l j [40]) (h1 : Lit l k [41]) (hz : ExEnd l (k + 1)) : exprR (ps l (m + 2)) false j = .ok y (k + 1):=by
 show binS l (ps l (m + 1)) false 1 j = _
 have e2 : (ps l (m + 1)).una false j = .ok y (k + 1):=by
  show unaS l (ps l m) false j = _
  rw [unaS,if_neg (by rw [h0.pre (by decide)]; simp),postR,prim_paren h0 e h1]
  exact post_end (by omega) hz.po
 rw [binS,e2]
 simp only [Res.bind,binF]
 rw [if_neg (by rw [hz.rank]; omega)]
/-- The expression in brackets, twice. -/
theorem parens_back (C : Clw q c) (hs : snd n .exp t = true) (hn : nmT n t) (hA : At c l i ([[40],[40]] ++ (tks q n .exp t ++ [[41],[41]]))) (hz : ExEnd l (i + ([[40],[40]] ++ (tks q n .exp t ++ [[41],[41]])).length)) (hm : 3 * (tks q n .exp t).length + 6 ≤ m) :
    exprR (ps l m) false i = .ok t (i + ([[40],[40]] ++ (tks q n .exp t ++ [[41],[41]])).length):=by
  have p0 : Lit l i [40]:=At.lit C hA (by decide)
  have p1 : Lit l (i + 1) [40]:=At.lit C hA.2 (by decide)
  have a2 : At c l (i + 1 + 1) (tks q n .exp t ++ [[41],[41]]):=hA.2.2
  have p2 : Lit l (i + 1 + 1 + (tks q n .exp t).length) [41]:=At.lit C a2.snd (by decide)
  have p3 : Lit l (i + 1 + 1 + (tks q n .exp t).length + 1) [41]:=At.lit C a2.snd.2 (by decide)
  obtain ⟨m,rfl⟩ : ∃ m',m = m' + 2 + 2:=⟨m - 4,by omega⟩
  have e1:=expr_back C (bk_all C n) hs hn a2.fst (.of p2 (by decide)) (m:=m) (by omega)
  have e2:=paren_expr e1 p1 p2 (.of p3 (by decide))
  have hl : i + ([[40],[40]] ++ (tks q n .exp t ++ [[41],[41]])).length = i + 1 + 1 + (tks q n .exp t).length + 1 + 1:=by simp only [List.length_append,List.length_cons,List.length_nil]; omega
  rw [hl] at hz ⊢
  exact paren_expr e2 p0 p3 hz
theorem tree_parens (C : Clw q c) (hs : snd 96 .exp t = true) (hn : nmT 96 t) (hA : At c l 0 ([[102,117,110,99],[102],[40],[41],[123],[114,101,116,117,114,110]] ++ (([[40],[40]] ++ (tks q 96 .exp t ++ [[41],[41]])) ++ [[59],[125]])))
    (hz : isM l ([[102,117,110,99],[102],[40],[41],[123],[114,101,116,117,114,110]] ++ (([[40],[40]] ++ (tks q 96 .exp t ++ [[41],[41]])) ++ [[59],[125]])).length [] = true) : ∃ N,treeR l = .ok (aroT t) N:=by
  generalize hX : [[40],[40]] ++ (tks q 96 .exp t ++ [[41],[41]]) = X at *
  have hXl : X.length = (tks q 96 .exp t).length + 4:=by rw [← hX]; simp
  have hle:=hA.len
  simp only [List.length_append,List.length_cons,List.length_nil] at hle
  have p0 : Lit l 0 [102,117,110,99]:=At.lit C hA (by decide)
  have p1 : Tk1 c l 1 [102]:=hA.2.1
  have a2 : At c l 2 [[40],[41]]:=⟨hA.2.2.1,hA.2.2.2.1,trivial⟩
  have p4 : Lit l 4 [123]:=At.lit C hA.2.2.2.2 (by decide)
  have p5 : Lit l 5 [114,101,116,117,114,110]:=At.lit C hA.2.2.2.2.2 (by decide)
  have a6 : At c l 6 (X ++ [[59],[125]]):=hA.2.2.2.2.2.2
  have p6 : Lit l (6 + X.length) [59]:=At.lit C a6.snd (by decide)
  have p7 : Lit l (6 + X.length + 1) [125]:=At.lit C a6.snd.2 (by decide)
  have p60 : Lit l 6 [40]:=by rw [← hX] at a6; exact At.lit C a6 (by decide)
  have hz' : isM l (6 + X.length + 2) [] = true:=by
   rw [← hz]; congr 1; simp only [List.length_append,List.length_cons,List.length_nil]; omega
  obtain ⟨M,hM⟩ : ∃ M,3 * l.length + 3 = M + 1:=⟨3 * l.length + 2,rfl⟩
  have eX : exprR (ps l M) false 6 = .ok t (6 + X.length):=by
   rw [← hX]
   exact parens_back C hs hn (by rw [hX]; exact a6.fst) (by rw [hX]; exact .of p6 (by decide)) (by omega)
  have eS : stmtR l (ps l M) false 5 = .ok (.mk 27 [] 0 [t]) (6 + X.length + 1):=by
   rw [stmtR,if_neg (by rw [p5.no rfl]; simp),if_neg (by rw [p5.no rfl]; simp),if_neg (by rw [p5.no rfl]; simp),simpleR,if_neg (by rw [p5.no rfl]; simp),if_neg (by rw [p5.no rfl]; simp),if_neg (by rw [p5.no rfl]; simp),if_pos p5.yes,if_neg (by rw [p60.no rfl]; simp),exprsR,commasR,eX]
   simp only [Res.bind,commasF]
   rw [if_neg (by rw [p6.no rfl]; simp)]
   simp only [needB p6]
  have eB : (ps l (M + 1)).blk 4 = .ok (.mk 20 [] 0 [.mk 27 [] 0 [t]]) (6 + X.length + 2):=by
   show blkS l (ps l M) 4 = _
   rw [blkS,membersR,betweenR,needB p4]
   obtain ⟨L,hL⟩ : ∃ L,l.length + 1 = L + 2:=⟨l.length - 1,by have:=p7.1; omega⟩
   simp only [Res.bind,upToR,hL]
   rw [upToF,if_neg (by rw [p5.no rfl]; simp),eS]
   simp only [Res.bind]
   rw [upToF,if_pos p7.yes]
   simp only [needB p7]
   rfl
  have eG : sigR l (ps l (M + 1)) 2 = .ok (.mk 7 [] 0 []) 4:=by
   have:=(bk_all (l:=l) C 2).sig (.mk 7 [] 0 []) (M + 1) 2 (by decide) (show At c l 2 [[40],[41]] from a2) (.of (s:=[123]) p4 (by decide)) (by show 3 * 2 ≤ _; omega)
   exact this
  have eD : declR l (ps l (M + 1)) 0 = .ok (.mk 4 [102] 0 [.mk 7 [] 0 [],.mk 20 [] 0 [.mk 27 [] 0 [t]]]) (6 + X.length + 2):=by
   rw [declR,if_neg (by rw [p0.no rfl]; simp),needB p0]
   simp only [Res.bind]
   rw [if_neg (by rw [not_lit (.inl (kind1 C p1 fname).1)]; simp),nameB C p1 fname]
   simp only
   rw [eG]
   simp only
   rw [eB]
  refine ⟨6 + X.length + 2,?_⟩
  obtain ⟨L,hL⟩ : ∃ L,l.length + 1 = L + 2:=⟨l.length - 1,by have:=p7.1; omega⟩
  rw [treeR,progR,hM,upToR,hL,upToF,if_neg (by rw [p0.no rfl]; simp),eD]
  simp only [Res.bind]
  rw [upToF,if_pos hz']
  rfl
end
end Go.Proofs.YtffnaknidofobaaGreatDoor

namespace Go.Proofs.YtffnaknidofobaaGreatDoor
theorem W_lit {s : Wd} (h : s ∈ marksL ++ wordsL) : Wok s:=lit_ok h
theorem parse_of_scan {s : List UInt8} {us : List TkA} {t : Tr} {N : Nat} (e : scanRes s = (us,0,0)) (h : treeR (us ++ [(4,[],0,s.length)]) = .ok t N) (hs : smallT t = true) : parseP s = (some t,0,0):=by
 unfold parseP
 rw [e]
 simp only [ne_eq,not_true_eq_false,if_false]
 rw [h]
 simp only [hs,if_true]
theorem end_is (us : List TkA) (n k : Nat) (h : us.length = k) : isM (us ++ [(4,[],0,n)]) k [] = true:=by
 have : tkA (us ++ [(4,[],0,n)]) k = (4,[],0,n):=by rw [← h]; simp [tkA,List.getD_eq_getElem?_getD]
 simp [isM,kindA,textA,this]
section
variable {t : Tr}
theorem close_tail : GoodA [([59],[32]),([125],[])]:=good_blank (W_lit (by decide)) (good_end (W_lit (by decide)))
theorem clo_of {r : List (Wd × List UInt8)} {c : UInt8} {g : List UInt8} (h : c = 40 ∨ c = 41 ∨ c = 59) : Clo (layG (([c],g) :: r)):=⟨c,_,rfl,h⟩
/-- func f() { return s; } -/
theorem one_back (hs : soundT (aroT t) = true) (hn : nmT 96 t) (hl : (lay (tks quoteL 96 .exp t)).length ≤ 20000) :
    parseP ([102,117,110,99,32,102,40,41,32,123,32,114,101,116,117,114,110,32] ++ (lay (tks quoteL 96 .exp t) ++ [59,32,125])) = (some (aroT t),0,0) ∨ ∃ a,parseP ([102,117,110,99,32,102,40,41,32,123,32,114,101,116,117,114,110,32] ++ (lay (tks quoteL 96 .exp t) ++ [59,32,125])) = (none,a,4):=by
  have hx:=aro_exp hs
  have hw:=(wk_all 96).exp t hx hn
  have hsm : smallT (aroT t) = true:=by simp only [soundT,Bool.and_eq_true] at hs; exact hs.1
  have hp : prgB (aroT t) = true:=by simp only [soundT,Bool.and_eq_true] at hs; exact hs.2
  have g1 : GoodA (laid (tks quoteL 96 .exp t) ++ [([59],[32]),([125],[])]):=good_laid close_tail.1 (clo_of (.inr (.inr rfl))) _ hw
  have g2:=good_blank (W_lit (s:=[102,117,110,99]) (by decide)) (good_close (word_ok fname) (clo_of (c:=40) (g:=[]) (.inl rfl)) (good_close (w:=[40]) (W_lit (by decide)) (clo_of (c:=41) (g:=[32]) (.inr (.inl rfl))) (good_blank (w:=[41]) (W_lit (by decide)) (good_blank (w:=[123]) (W_lit (by decide)) (good_blank (w:=[114,101,116,117,114,110]) (W_lit (by decide)) g1)))))
  generalize hG : ([102,117,110,99],[32]) :: ([102],[]) :: ([40],[]) :: ([41],[32]) :: ([123],[32]) :: ([114,101,116,117,114,110],[32]) :: (laid (tks quoteL 96 .exp t) ++ [([59],[32]),([125],[])]) = G at *
  have hT : layG G = [102,117,110,99,32,102,40,41,32,123,32,114,101,116,117,114,110,32] ++ (lay (tks quoteL 96 .exp t) ++ [59,32,125]):=by
   rw [← hG]
   simp only [layG,layG_app,layG_laid]
   simp
  have hW : G.map (·.1) = prgT quoteL (aroT t):=by
   rw [aro_words,← hG]
   simp [laid_fst]
  rw [← hT]
  have hlen : (layG G).length ≤ 65536:=by rw [hT]; simp only [List.length_append,List.length_cons,List.length_nil]; omega
  rcases scan_layG g2.1 g2.2 hlen with ⟨_,e⟩ | ⟨p,e,_⟩
  · left
    have hA:=at_words (prgT quoteL (aroT t)) (layGT G) [] [(4,[],0,(layG G).length)] (by rw [layGT_map,hW])
    rw [List.nil_append] at hA
    exact parse_of_scan e (tree_back clw hp (aro_nm hn) hA (end_is _ _ _ (by rw [layGT_len,← hW]; simp))) hsm
  · right
    exact ⟨p,by unfold parseP; rw [e]; simp⟩
/-- func f() { return ((s)); } -/
theorem two_back (hs : soundT (aroT t) = true) (hn : nmT 96 t) (hl : (lay (tks quoteL 96 .exp t)).length ≤ 20000) :
    parseP ([102,117,110,99,32,102,40,41,32,123,32,114,101,116,117,114,110,32,40,40] ++ (lay (tks quoteL 96 .exp t) ++ [41,41,59,32,125])) = (some (aroT t),0,0) ∨ ∃ a,parseP ([102,117,110,99,32,102,40,41,32,123,32,114,101,116,117,114,110,32,40,40] ++ (lay (tks quoteL 96 .exp t) ++ [41,41,59,32,125])) = (none,a,4):=by
  have hx:=aro_exp hs
  have hw:=(wk_all 96).exp t hx hn
  have hsm : smallT (aroT t) = true:=by simp only [soundT,Bool.and_eq_true] at hs; exact hs.1
  have g0 : GoodA [([41],[]),([41],[]),([59],[32]),([125],[])]:=good_close (W_lit (by decide)) (clo_of (.inr (.inl rfl))) (good_close (W_lit (by decide)) (clo_of (.inr (.inr rfl))) close_tail)
  have g1 : GoodA (laid (tks quoteL 96 .exp t) ++ [([41],[]),([41],[]),([59],[32]),([125],[])]):=good_laid g0.1 (clo_of (.inr (.inl rfl))) _ hw
  have g2:=good_blank (W_lit (s:=[102,117,110,99]) (by decide)) (good_close (word_ok fname) (clo_of (c:=40) (g:=[]) (.inl rfl)) (good_close (w:=[40]) (W_lit (by decide)) (clo_of (c:=41) (g:=[32]) (.inr (.inl rfl))) (good_blank (w:=[41]) (W_lit (by decide)) (good_blank (w:=[123]) (W_lit (by decide)) (good_blank (w:=[114,101,116,117,114,110]) (W_lit (by decide)) (good_open (good_open g1)))))))
  generalize hG : ([102,117,110,99],[32]) :: ([102],[]) :: ([40],[]) :: ([41],[32]) :: ([123],[32]) :: ([114,101,116,117,114,110],[32]) :: ([40],[]) :: ([40],[]) :: (laid (tks quoteL 96 .exp t) ++ [([41],[]),([41],[]),([59],[32]),([125],[])]) = G at *
  have hT : layG G = [102,117,110,99,32,102,40,41,32,123,32,114,101,116,117,114,110,32,40,40] ++ (lay (tks quoteL 96 .exp t) ++ [41,41,59,32,125]):=by
   rw [← hG]
   simp only [layG,layG_app,layG_laid]
   simp
  have hW : G.map (·.1) = [[102,117,110,99],[102],[40],[41],[123],[114,101,116,117,114,110]] ++ (([[40],[40]] ++ (tks quoteL 96 .exp t ++ [[41],[41]])) ++ [[59],[125]]):=by
   rw [← hG]
   simp [laid_fst]
  rw [← hT]
  have hlen : (layG G).length ≤ 65536:=by rw [hT]; simp only [List.length_append,List.length_cons,List.length_nil]; omega
  rcases scan_layG g2.1 g2.2 hlen with ⟨_,e⟩ | ⟨p,e,_⟩
  · left
    have hA:=at_words _ (layGT G) [] [(4,[],0,(layG G).length)] (by rw [layGT_map,hW])
    rw [List.nil_append] at hA
    obtain ⟨N,hN⟩:=tree_parens clw hx hn hA (end_is _ _ _ (by rw [layGT_len,← hW]; simp))
    exact parse_of_scan e hN hsm
  · right
    exact ⟨p,by unfold parseP; rw [e]; simp⟩
/-- What Expr writes. -/
theorem exprP_ok (he : (exprP t).2 = 0) : soundT (aroT t) = true ∧ (exprP t).1 = lay (tks quoteL 96 .exp t):=by
 unfold exprP at he ⊢
 by_cases hs : soundT (aroT t) = true
 · rw [if_pos hs] at he ⊢
   refine ⟨hs,?_⟩
   unfold textR at he ⊢
   by_cases hl : 65536 < (puts ([],false) (tks quoteL 96 .exp t)).1.length
   · rw [if_pos hl] at he; cases he
   · rw [if_neg hl]
     have:=puts_lay (tks quoteL 96 .exp t) ([],false) (by omega)
     simp only at this ⊢
     rw [this]
     cases tks quoteL 96 .exp t <;> simp [lay]
 · rw [if_neg hs] at he; cases he
theorem exprP_len : (exprP t).1.length ≤ 65536:=by
 unfold exprP textR
 split
 · split
   · simp
   · simp only; omega
 · simp
end
end Go.Proofs.YtffnaknidofobaaGreatDoor

namespace Go.Proofs.YtffnaknidofobaaGreatDoor
open Go.RowKit
attribute [local go_sem ↓] Go.wp_at_zero Go.wp_at_succ
theorem nodeP_any (k : Int) (s : List UInt8) (ao : Option Addr) (n c : Nat) (w : World) :
    Calls Tryz.prog 43 #[.int .i64 k,.string ⟨s.toArray⟩,.slice ao n c] w fun e w' => e = .returned (.agg #[.int .i64 k,.string ⟨s.toArray⟩,.int .i64 0,.slice ao n c]) ∧ Below w.heap.size w w':=by
  go_enter Tryz.func43,Tryz.ntmps43
  go_wp2
  exact bodyPost_ret (v:=.agg #[.int .i64 k,.string ⟨s.toArray⟩,.int .i64 0,.slice ao n c]) (by simp [results,Tryz.results43,go_sem]) rfl ⟨rfl,(Below.refl _ _).alloc (Nat.le_refl _) _⟩
theorem kt_one {w : World} {S : Nat → Prop} {a : Tr} {sl : Value} {g c : Nat} {ty : TypeId} {fl : Nat × Nat} (k : Int) (s : List UInt8) (n : Int) (h : w.heap[g]? = some (.cells #[.int .i64 a.kind,.string ⟨a.text.toArray⟩,.int .i64 a.num,sl] ty fl)) (hS : S g) (hc : 1 ≤ c) (ha : KT w S a sl) : KT w S (.mk k s n [a]) (.slice (some ⟨g,0,none⟩) 1 c):=by
 simp only [KT]
 refine ⟨[sl],.inr ⟨g,0,c,rfl,hc,hS,fun j u hj => ?_⟩,?_⟩
 · rw [Lib.cell_of_heap h]
   match j,hj with
   | 0,hj => exact hj
   | 1,hj => exact hj
   | 2,hj => exact hj
   | 3,hj => exact hj
 · simp only [KL]; exact ⟨sl,[],rfl,ha,rfl⟩
theorem kt_two {w : World} {S : Nat → Prop} {a b : Tr} {sl sl2 : Value} {g c : Nat} {ty : TypeId} {fl : Nat × Nat} (k : Int) (s : List UInt8) (n : Int) (h : w.heap[g]? = some (.cells #[.int .i64 a.kind,.string ⟨a.text.toArray⟩,.int .i64 a.num,sl,.int .i64 b.kind,.string ⟨b.text.toArray⟩,.int .i64 b.num,sl2] ty fl)) (hS : S g) (hc : 2 ≤ c) (ha : KT w S a sl) (hb : KT w S b sl2) : KT w S (.mk k s n [a,b]) (.slice (some ⟨g,0,none⟩) 2 c):=by
 simp only [KT]
 refine ⟨[sl,sl2],.inr ⟨g,0,c,rfl,hc,hS,fun j u hj => ?_⟩,?_⟩
 · rw [Lib.cell_of_heap h]
   match j,hj with
   | 0,hj => exact hj
   | 1,hj => exact hj
   | 2,hj => exact hj
   | 3,hj => exact hj
   | 4,hj => exact hj
   | 5,hj => exact hj
   | 6,hj => exact hj
   | 7,hj => exact hj
 · simp only [KL]; exact ⟨sl,[sl2],rfl,ha,sl2,[],rfl,hb,rfl⟩
theorem kt_nil {w : World} {S : Nat → Prop} (k : Int) (s : List UInt8) (n : Int) : KT w S (.mk k s n []) (.slice none 0 0):=by
 simp only [KT]; exact ⟨[],.inl ⟨rfl,none,0,rfl⟩,by simp [KL]⟩
/-- Four cells of a block. -/
def S4 (m : Nat) (v0 v1 v2 v3 : Value) (W : World) : Prop:=W.cell? ⟨m,0,none⟩ = some v0 ∧ W.cell? ⟨m,1,none⟩ = some v1 ∧ W.cell? ⟨m,2,none⟩ = some v2 ∧ W.cell? ⟨m,3,none⟩ = some v3
theorem S4.below {m B : Nat} {v0 v1 v2 v3 : Value} {W W' : World} (h : W.cell? ⟨m,0,none⟩ = some v0 ∧ W.cell? ⟨m,1,none⟩ = some v1 ∧ W.cell? ⟨m,2,none⟩ = some v2 ∧ W.cell? ⟨m,3,none⟩ = some v3) (hb : Below B W W') (hm : m < B) : W'.cell? ⟨m,0,none⟩ = some v0 ∧ W'.cell? ⟨m,1,none⟩ = some v1 ∧ W'.cell? ⟨m,2,none⟩ = some v2 ∧ W'.cell? ⟨m,3,none⟩ = some v3 :=
  ⟨(hb.cell (p:=⟨m,0,none⟩) hm).trans h.1,(hb.cell (p:=⟨m,1,none⟩) hm).trans h.2.1,(hb.cell (p:=⟨m,2,none⟩) hm).trans h.2.2.1,(hb.cell (p:=⟨m,3,none⟩) hm).trans h.2.2.2⟩
theorem S4.alloc {m : Nat} {v0 v1 v2 v3 : Value} {W : World} {o : Obj} (h : W.cell? ⟨m,0,none⟩ = some v0 ∧ W.cell? ⟨m,1,none⟩ = some v1 ∧ W.cell? ⟨m,2,none⟩ = some v2 ∧ W.cell? ⟨m,3,none⟩ = some v3) (hm : m < W.heap.size) : (W.alloc o).cell? ⟨m,0,none⟩ = some v0 ∧ (W.alloc o).cell? ⟨m,1,none⟩ = some v1 ∧ (W.alloc o).cell? ⟨m,2,none⟩ = some v2 ∧ (W.alloc o).cell? ⟨m,3,none⟩ = some v3 :=
  S4.below h ((Below.refl _ _).alloc (Nat.le_refl _) _) hm
theorem S4.put {m n : Nat} {v0 v1 v2 v3 : Value} {W W' : World} (h : W.cell? ⟨m,0,none⟩ = some v0 ∧ W.cell? ⟨m,1,none⟩ = some v1 ∧ W.cell? ⟨m,2,none⟩ = some v2 ∧ W.cell? ⟨m,3,none⟩ = some v3) (hp : Put n W W') (hm : m ≠ n) : W'.cell? ⟨m,0,none⟩ = some v0 ∧ W'.cell? ⟨m,1,none⟩ = some v1 ∧ W'.cell? ⟨m,2,none⟩ = some v2 ∧ W'.cell? ⟨m,3,none⟩ = some v3:=by
 have e:=hp.block m hm
 unfold World.cell? at h ⊢
 simp only [e]
 exact h
/-- What stands while a tree is built: nothing old has changed, the answer's cells are empty, the tree lies. -/
structure Aro (w0 : World) (T : Tr) (sl : Value) (W : World) : Prop where
  out : Below w0.heap.size w0 W
  res : Box W (w0.heap.size + 1)
  lt : w0.heap.size + 1 < W.heap.size
  kt : KT W (fun b => b < W.heap.size ∧ b ≠ w0.heap.size + 1) T sl
section
variable {w0 W W' : World} {T : Tr} {sl : Value}
theorem Aro.call (h : Aro w0 T sl W) (hb : Below W.heap.size W W') : Aro w0 T sl W' :=
  ⟨h.out.trans (hb.mono h.out.size),h.res.below hb h.lt,Nat.lt_of_lt_of_le h.lt hb.size,h.kt.fr (fun b hb' => hb.block b hb'.1) (fun _ h => ⟨Nat.lt_of_lt_of_le h.1 hb.size,h.2⟩)⟩
theorem Aro.alloc (h : Aro w0 T sl W) (o : Obj) : Aro w0 T sl (W.alloc o):=h.call ((Below.refl _ _).alloc (Nat.le_refl _) _)
theorem Aro.drew (h : Aro w0 T sl W) : Aro w0 T sl W.drew:=⟨h.out.trans ⟨rfl,rfl,rfl,Nat.le_refl _,fun _ _ => rfl⟩,h.res.of_block rfl,h.lt,h.kt.fr (fun _ _ => rfl) (fun _ h => h)⟩
/-- A node with the tree as its one kid. -/
theorem Aro.wrap (h : Aro w0 T sl W) (k : Int) (s : List UInt8) (n : Int) : Aro w0 (.mk k s n [T]) (.slice (some ⟨W.heap.size,0,none⟩) 1 1) (W.alloc (.cells #[.int .i64 T.kind,.string ⟨T.text.toArray⟩,.int .i64 T.num,sl] 24)):=by
 have h':=h.alloc (.cells #[.int .i64 T.kind,.string ⟨T.text.toArray⟩,.int .i64 T.num,sl] 24)
 exact ⟨h'.out,h'.res,h'.lt,kt_one k s n (heap_alloc_new W _) ⟨by simp,by have:=h.lt; omega⟩ (Nat.le_refl _) h'.kt⟩
/-- The function's node: no parameters, and the block. -/
theorem Aro.two (h : Aro w0 T sl W) : Aro w0 (.mk 4 [102] 0 [.mk 7 [] 0 [],T]) (.slice (some ⟨W.heap.size,0,none⟩) 2 2) (W.alloc (.cells #[.int .i64 7,.string ⟨#[]⟩,.int .i64 0,.slice none 0 0,.int .i64 T.kind,.string ⟨T.text.toArray⟩,.int .i64 T.num,sl] 24)):=by
 have h':=h.alloc (.cells #[.int .i64 7,.string ⟨#[]⟩,.int .i64 0,.slice none 0 0,.int .i64 T.kind,.string ⟨T.text.toArray⟩,.int .i64 T.num,sl] 24)
 exact ⟨h'.out,h'.res,h'.lt,kt_two (a:=.mk 7 [] 0 []) 4 [102] 0 (heap_alloc_new W _) ⟨by simp,by have:=h.lt; omega⟩ (Nat.le_refl _) (kt_nil 7 [] 0) h'.kt⟩
end
set_option maxRecDepth 20000 in
set_option maxHeartbeats 2000000 in
theorem around_any (t : Tr) (sl : Value) (w : World) (hk : KT w (· < w.heap.size) t sl) :
    Calls Tryz.prog 21 #[tv t sl] w fun e w' => Below w.heap.size w w' ∧ ∃ sl',e = .returned (tv (aroT t) sl') ∧ KT w' (· < w'.heap.size) (aroT t) sl':=by
  obtain ⟨ao,c,rfl⟩ : ∃ ao c,sl = .slice ao t.kids.length c:=(Lst.kids hk).slice
  obtain ⟨W3,hW3⟩ : ∃ W,((w.alloc (.cells #[.int .i64 t.kind,.string ⟨t.text.toArray⟩,.int .i64 t.num,.slice ao t.kids.length c] 24)).alloc (.cells #[.int .i64 0,.string ⟨#[]⟩,.int .i64 0,.slice none 0 0] 24)).alloc (.cells #[.int .i64 t.kind,.string ⟨t.text.toArray⟩,.int .i64 t.num,.slice ao t.kids.length c] 24) = W:=⟨_,rfl⟩
  have z3 : W3.heap.size = w.heap.size + 3:=by rw [← hW3]; simp
  have b3 : Below w.heap.size w W3:=hW3 ▸ (((Below.refl _ _).alloc (Nat.le_refl _) _).alloc (by simp) _).alloc (by simp; omega) _
  have r3 : W3.heap[w.heap.size + 1]? = some (.cells #[.int .i64 0,.string ⟨#[]⟩,.int .i64 0,.slice none 0 0] 24 (0,0)):=by
   rw [← hW3,Lib.alloc_old _ _ _ (by simp)]
   have:=heap_alloc_new (w.alloc (.cells #[.int .i64 t.kind,.string ⟨t.text.toArray⟩,.int .i64 t.num,.slice ao t.kids.length c] 24)) (.cells #[.int .i64 0,.string ⟨#[]⟩,.int .i64 0,.slice none 0 0] 24)
   simpa using this
  have n3 : W3.heap[w.heap.size + 2]? = some (.cells #[.int .i64 t.kind,.string ⟨t.text.toArray⟩,.int .i64 t.num,.slice ao t.kids.length c] 24 (0,0)):=by
   rw [← hW3]
   have:=heap_alloc_new ((w.alloc (.cells #[.int .i64 t.kind,.string ⟨t.text.toArray⟩,.int .i64 t.num,.slice ao t.kids.length c] 24)).alloc (.cells #[.int .i64 0,.string ⟨#[]⟩,.int .i64 0,.slice none 0 0] 24)) (.cells #[.int .i64 t.kind,.string ⟨t.text.toArray⟩,.int .i64 t.num,.slice ao t.kids.length c] 24)
   simpa using this
  have a3 : Aro w (.mk 27 [] 0 [t]) (.slice (some ⟨w.heap.size + 2,0,none⟩) 1 1) W3:=⟨b3,⟨_,_,_,_,r3⟩,by omega,
    kt_one 27 [] 0 n3 ⟨by omega,by omega⟩ (Nat.le_refl _) (hk.fr (fun b hb => b3.block b hb) (fun b (h : b < w.heap.size) => ⟨by omega,by omega⟩))⟩
  have c1:=nodeP_any 27 [] (some ⟨w.heap.size + 2,0,none⟩) 1 1 W3
  clear hk n3 z3 b3 r3
  subst hW3
  go_enter Tryz.func21,Tryz.ntmps21
  go_wp2_with fail
  refine c1.mono ?_
  rintro e w4 ⟨rfl,hb4⟩
  clear c1
  have a4:=a3.call hb4
  have a5:=a4.wrap 20 [] 0
  clear a3 hb4
  have c2:=nodeP_any 20 [] (some ⟨w4.heap.size,0,none⟩) 1 1 (w4.alloc (.cells #[.int .i64 27,.string ⟨#[]⟩,.int .i64 0,.slice (some ⟨w.heap.size + 2,0,none⟩) 1 1] 24))
  go_wp2_with fail
  refine c2.mono ?_
  rintro e w6 ⟨rfl,hb6⟩
  clear c2
  have a6:=a5.call hb6
  have a7:=a6.alloc (.cells #[.int .i64 20,.string ⟨#[]⟩,.int .i64 0,.slice (some ⟨w4.heap.size,0,none⟩) 1 1] 24)
  have n7 : (w6.alloc (.cells #[.int .i64 20,.string ⟨#[]⟩,.int .i64 0,.slice (some ⟨w4.heap.size,0,none⟩) 1 1] 24)).heap[w6.heap.size]? = some (.cells #[.int .i64 20,.string ⟨#[]⟩,.int .i64 0,.slice (some ⟨w4.heap.size,0,none⟩) 1 1] 24 (0,0)):=heap_alloc_new w6 _
  have hm6 : w.heap.size + 1 < w6.heap.size:=a6.lt
  clear a4 a5 a6 hb6
  have zz : w6.heap.size < (w6.alloc (.cells #[.int .i64 20,.string ⟨#[]⟩,.int .i64 0,.slice (some ⟨w4.heap.size,0,none⟩) 1 1] 24)).heap.size:=by simp
  go_wp2_with fail
  generalize (w6.alloc (.cells #[.int .i64 20,.string ⟨#[]⟩,.int .i64 0,.slice (some ⟨w4.heap.size,0,none⟩) 1 1] 24)) = W7 at *
  have a8:=a7.drew
  have n8 : W7.drew.heap[w6.heap.size]? = some (.cells #[.int .i64 20,.string ⟨#[]⟩,.int .i64 0,.slice (some ⟨w4.heap.size,0,none⟩) 1 1] 24 (0,0)):=n7
  have zz8 : w6.heap.size < W7.drew.heap.size:=zz
  have x0 : W7.drew.cell? ⟨w6.heap.size,0,none⟩ = some (.int .i64 20):=by rw [Lib.cell_of_heap n8]; rfl
  have x1 : W7.drew.cell? ⟨w6.heap.size,1,none⟩ = some (.string ⟨#[]⟩):=by rw [Lib.cell_of_heap n8]; rfl
  have x2 : W7.drew.cell? ⟨w6.heap.size,2,none⟩ = some (.int .i64 0):=by rw [Lib.cell_of_heap n8]; rfl
  have x3 : W7.drew.cell? ⟨w6.heap.size,3,none⟩ = some (.slice (some ⟨w4.heap.size,0,none⟩) 1 1):=by rw [Lib.cell_of_heap n8]; rfl
  clear a7 n7 zz
  (first | go_region_with (first
    | (have k:=hb10; clear k; go_at_call 43; refine (nodeP_any 1 [] _ _ _ _).mono ?_; rintro e w12 ⟨rfl,hb12⟩
       have a12:=((a9.two).call hb10 |>.wrap 1 [] 0).call hb12
       obtain ⟨u0,u1,u2,u3,q0,q1,q2,q3,qf⟩:=a12.res.open
       have qf0:=qf 0
       have qf1:=qf 1
       have qf2:=qf 2
       have qf3:=qf 3
       clear qf)
    | (have k:=hb8; clear k; go_at_call 43; refine (nodeP_any 4 [102] _ _ _ _).mono ?_; rintro e w10 ⟨rfl,hb10⟩)
    | (go_at_call 43; refine (nodeP_any 7 [] none 0 0 _).mono ?_; rintro e w8 ⟨rfl,hb8⟩
       obtain ⟨y0,y1,y2,y3⟩:=S4.below ⟨x0,x1,x2,x3⟩ hb8 zz8
       have a9:=a8.call hb8)) | fail)
  all_goals
   go_wp2
   obtain ⟨Wf,hWf,hput,_,e0,e1,e2,e3⟩:=putN4 a12.res (.int .i64 1) (.string ⟨#[]⟩) (.int .i64 0) (.slice (some ⟨w10.heap.size,0,none⟩) 1 1)
   rw [hWf]
   exact bodyPost_ret (v:=.agg #[.int .i64 1,.string ⟨#[]⟩,.int .i64 0,.slice (some ⟨w10.heap.size,0,none⟩) 1 1]) (by simp [results,Tryz.results21,go_sem,e0,e1,e2,e3]) rfl ⟨below_put a12.out hput (by omega),_,rfl,a12.kt.fr (fun b hb => hput.block b hb.2) (fun b hb => by show b < _; rw [hput.size]; exact hb.1)⟩
end Go.Proofs.YtffnaknidofobaaGreatDoor
