/- There and back, plain: statements, declarations, programs: the tokens of a sound tree are that tree. -/
import Derived.Test.YtffnaknidofobaaGreatDoorBkFJt
namespace Go.Proofs.YtffnaknidofobaaGreatDoor
section
variable {q : List UInt8 → Wd} {c : Wd → Int × List UInt8 × Int} {l : List Tk} {i j m n : Nat} {s x : Wd} {a b ws : List Wd} {t : Tr} {h : Bool}
/-- Expressions with commas between. -/
theorem exprs_back (C : Clw q c) (I : Bk q c l n) {ks : List Tr} (hne : ks ≠ []) (hk : ∀ k ∈ ks,snd n .exp k = true) (hn : ∀ k ∈ ks,nmT n k)
    (hA : At c l i (commasT (tks q n .exp) ks)) (hz : Lit l (i + (commasT (tks q n .exp) ks).length) s) (hs : s ∈ [[59],[61],[58,61]]) (hm : 3 * (commasT (tks q n .exp) ks).length + 2 ≤ m) :
    exprsR l (ps l m) false i = .ok ks (i + (commasT (tks q n .exp) ks).length):=by
  have hf : ∀ s : Wd,s ∈ [[59],[61],[58,61]] → s ∈ [[44],[41],[93],[58],[125],[59],[61],[58,61]] ∧ (s == [44]) = false:=by decide
  exact commas_back C (E:=ExEnd l) (fun j h => .of h (by decide)) hne (fun k h j a e => expr_back C I (hk k h) (hn k h) a e (by have:=commas_len (f:=tks q n .exp) h; omega)) hA (.of hz (hf s hs).1) (hz.no (hf s hs).2)
theorem simple_of {p : Ps} (hA : ExpAt l i) (e : assignmentR l p false i = .ok t j) (hz : Lit l j [59]) : stmtR l p false i = .ok t (j + 1):=by
 rw [stmtR,if_neg (by rw [hA.no (by decide)]; simp),if_neg (by rw [hA.no (by decide)]; simp),if_neg (by rw [hA.no (by decide)]; simp),simpleR,if_neg (by rw [hA.no (by decide)]; simp),if_neg (by rw [hA.no (by decide)]; simp),if_neg (by rw [hA.no (by decide)]; simp),if_neg (by rw [hA.no (by decide)]; simp),e]
 simp only [Res.bind,needB hz]
theorem stm_bk (C : Clw q c) (I : Bk q c l n) (t : Tr) (m i : Nat) (hs : snd (n + 1) .stm t = true) (hn : nmT (n + 1) t) (hA : At c l i (tks q (n + 1) .stm t)) (hz : isM l (i + (tks q (n + 1) .stm t).length) [101,108,115,101] = false) (hm : 3 * (tks q (n + 1) .stm t).length + 2 ≤ m) :
    stmtR l (ps l m) false i = .ok t (i + (tks q (n + 1) .stm t).length):=by
  have hs' : stmB (snd n) t = true:=hs
  have hc:=stm_cases hs'
  have hks:=hn.2
  cases hc with
  | blk ks hk =>
   have hA' : At c l i (membersT (tks q n .stm) ks):=hA
   have hm' : 3 * (membersT (tks q n .stm) ks).length + 2 ≤ m:=hm
   have p0 : Lit l i [123]:=At.lit C (show At c l i ([123] :: _) from hA') (by decide)
   rw [stmtR,if_pos p0.yes]
   exact blk_back C I m i hk hks hA' (by omega)
  | if2 x y hx hy =>
   have hA' : At c l i (ifT (tks q n) (.mk 25 [] 0 [x,y])):=hA
   have hm' : 3 * (ifT (tks q n) (.mk 25 [] 0 [x,y])).length + 2 ≤ m:=hm
   have p0 : Lit l i [105,102]:=At.lit C (show At c l i ([105,102] :: _) from hA') (by decide)
   rw [stmtR,if_neg (by rw [p0.no rfl]; simp),if_pos p0.yes]
   exact if_back C I _ m i (by simpa [stmB,Tr.kind] using hs') hn hA' hz (by omega)
  | if3 x y z hx hy hz' =>
   have hA' : At c l i (ifT (tks q n) (.mk 25 [] 0 [x,y,z])):=hA
   have hm' : 3 * (ifT (tks q n) (.mk 25 [] 0 [x,y,z])).length + 2 ≤ m:=hm
   have p0 : Lit l i [105,102]:=At.lit C (show At c l i ([105,102] :: _) from hA') (by decide)
   rw [stmtR,if_neg (by rw [p0.no rfl]; simp),if_pos p0.yes]
   exact if_back C I _ m i (by simpa [stmB,Tr.kind] using hs') hn hA' hz (by omega)
  | var1 s x h0 hx =>
   have hT : tks q (n + 1) .stm (.mk 21 s 0 [x]) = [[118,97,114],s] ++ (tks q n .typ x ++ [[59]]):=by simp [tks,stmT,simT,varT,Tr.kind,Tr.kids,Tr.text,kidT]
   rw [hT] at hA hm ⊢
   have p0 : Lit l i [118,97,114]:=At.lit C hA (by decide)
   have a2 : At c l (i + 1 + 1) (tks q n .typ x ++ [[59]]):=hA.2.2
   have p2:=At.lit C a2.snd (by decide)
   simp only [List.length_append,List.length_cons,List.length_nil] at hm ⊢
   rw [stmtR,if_neg (by rw [p0.no rfl]; simp),if_neg (by rw [p0.no rfl]; simp),if_neg (by rw [p0.no rfl]; simp),simpleR,if_pos p0.yes,variableR,nameB C hA.2.1 h0]
   simp only [Res.bind]
   rw [I.typ x m _ hx a2.fst (.of p2 (by decide)) (by omega)]
   simp only
   rw [if_neg (by rw [p2.no rfl]; simp)]
   simp only [needB p2]
   congr 1; omega
  | var2 s x y h0 hx hy =>
   have hT : tks q (n + 1) .stm (.mk 21 s 0 [x,y]) = [[118,97,114],s] ++ (tks q n .typ x ++ ([[61]] ++ (tks q n .exp y ++ [[59]]))):=by simp [tks,stmT,simT,varT,Tr.kind,Tr.kids,Tr.text,kidT]
   rw [hT] at hA hm ⊢
   have p0 : Lit l i [118,97,114]:=At.lit C hA (by decide)
   have a2 : At c l (i + 1 + 1) (tks q n .typ x ++ ([[61]] ++ (tks q n .exp y ++ [[59]]))):=hA.2.2
   have p2 : Lit l (i + 1 + 1 + (tks q n .typ x).length) [61]:=At.lit C a2.snd (by decide)
   have a3 : At c l (i + 1 + 1 + (tks q n .typ x).length + 1) (tks q n .exp y ++ [[59]]):=a2.snd.2
   have p3:=At.lit C a3.snd (by decide)
   simp only [List.length_append,List.length_cons,List.length_nil] at hm ⊢
   rw [stmtR,if_neg (by rw [p0.no rfl]; simp),if_neg (by rw [p0.no rfl]; simp),if_neg (by rw [p0.no rfl]; simp),simpleR,if_pos p0.yes,variableR,nameB C hA.2.1 h0]
   simp only [Res.bind]
   rw [I.typ x m _ hx a2.fst (.of p2 (by decide)) (by omega)]
   simp only
   rw [if_pos p2.yes,expr_back C I hy (hks y (by simp [Tr.kids])) a3.fst (.of p3 (by decide)) (by omega)]
   simp only [needB p3]
   congr 1; omega
  | defn a b ha hb hp hk =>
   have hT : tks q (n + 1) .stm (.mk 22 [] a.length (a ++ b)) = commasT (tks q n .exp) a ++ ([[58,61]] ++ (commasT (tks q n .exp) b ++ [[59]])):=by simp [tks,stmT,simT,asgT,Tr.kind,Tr.num,Tr.kids]
   rw [hT] at hA hm ⊢
   have a0:=exps_first C ha (fun k h => hk k (by simp [h])) (fun k h => hks k (by simp [Tr.kids,h])) hA
   have p1 : Lit l (i + (commasT (tks q n .exp) a).length) [58,61]:=At.lit C hA.snd (by decide)
   have a2 : At c l (i + (commasT (tks q n .exp) a).length + 1) (commasT (tks q n .exp) b ++ [[59]]):=hA.snd.2
   have p3:=At.lit C a2.snd (by decide)
   simp only [List.length_append,List.length_cons,List.length_nil] at hm ⊢
   refine (simple_of a0.1 ?_ p3).trans (by congr 1; omega)
   rw [assignmentR,exprs_back C I ha (fun k h => hk k (by simp [h])) (fun k h => hks k (by simp [Tr.kids,h])) hA.fst p1 (by decide) (by omega)]
   simp only [Res.bind]
   rw [if_pos (by rw [p1.yes,hp]; rfl),assignedR,exprs_back C I hb (fun k h => hk k (by simp [h])) (fun k h => hks k (by simp [Tr.kids,h])) a2.fst p3 (by decide) (by omega)]
   rfl
  | asgn a b ha hb hp hk =>
   have hT : tks q (n + 1) .stm (.mk 23 [] a.length (a ++ b)) = commasT (tks q n .exp) a ++ ([[61]] ++ (commasT (tks q n .exp) b ++ [[59]])):=by simp [tks,stmT,simT,asgT,Tr.kind,Tr.num,Tr.kids]
   rw [hT] at hA hm ⊢
   have a0:=exps_first C ha (fun k h => hk k (by simp [h])) (fun k h => hks k (by simp [Tr.kids,h])) hA
   have p1 : Lit l (i + (commasT (tks q n .exp) a).length) [61]:=At.lit C hA.snd (by decide)
   have a2 : At c l (i + (commasT (tks q n .exp) a).length + 1) (commasT (tks q n .exp) b ++ [[59]]):=hA.snd.2
   have p3:=At.lit C a2.snd (by decide)
   simp only [List.length_append,List.length_cons,List.length_nil] at hm ⊢
   refine (simple_of a0.1 ?_ p3).trans (by congr 1; omega)
   rw [assignmentR,exprs_back C I ha (fun k h => hk k (by simp [h])) (fun k h => hks k (by simp [Tr.kids,h])) hA.fst p1 (by decide) (by omega)]
   simp only [Res.bind]
   rw [if_neg (by rw [p1.no rfl]; simp),if_pos (by rw [p1.yes,hp]; rfl),assignedR,exprs_back C I hb (fun k h => hk k (by simp [h])) (fun k h => hks k (by simp [Tr.kids,h])) a2.fst p3 (by decide) (by omega)]
   rfl
  | call x h0 hx =>
   have hT : tks q (n + 1) .stm (.mk 24 [] 0 [x]) = commasT (tks q n .exp) [x] ++ [[59]]:=by simp [tks,stmT,simT,Tr.kind,Tr.kids,kidT,commasT]
   rw [hT] at hA hm ⊢
   have hk1 : ∀ k ∈ [x],snd n .exp k = true:=by simpa using hx
   have hk2 : ∀ k ∈ [x],nmT n k:=hks
   have a0:=exps_first C (by simp) hk1 hk2 hA
   have p3:=At.lit C hA.snd (by decide)
   simp only [List.length_append,List.length_cons,List.length_nil] at hm ⊢
   refine (simple_of a0.1 ?_ p3).trans (by congr 1)
   rw [assignmentR,exprs_back C I (by simp) hk1 hk2 hA.fst p3 (by decide) (by omega)]
   simp only [Res.bind]
   rw [if_neg (by rw [p3.no rfl]; simp),if_neg (by rw [p3.no rfl]; simp),if_pos h0]
  | for1 y hy =>
   have hT : tks q (n + 1) .stm (.mk 26 [] 0 [y]) = [[102,111,114]] ++ tks q n .blk y:=by simp [tks,stmT,forT,Tr.kind,Tr.kids,kidT]
   rw [hT] at hA hm ⊢
   have p0 : Lit l i [102,111,114]:=At.lit C hA (by decide)
   have a1 : At c l (i + 1) (tks q n .blk y):=hA.2
   have p1:=blk_first C hy (r:=[]) (by simpa using a1)
   simp only [List.length_append,List.length_cons,List.length_nil] at hm ⊢
   rw [stmtR,if_neg (by rw [p0.no rfl]; simp),if_neg (by rw [p0.no rfl]; simp),if_pos p0.yes,forR,if_pos p1.yes,I.blk y m _ hy (hks y (by simp [Tr.kids])) a1 (by omega)]
   simp only [Res.bind]
   congr 1; omega
  | for2 x y hx hy =>
   have hT : tks q (n + 1) .stm (.mk 26 [] 0 [x,y]) = [[102,111,114]] ++ (tks q n .exp x ++ tks q n .blk y):=by simp [tks,stmT,forT,Tr.kind,Tr.kids,kidT]
   rw [hT] at hA hm ⊢
   have p0 : Lit l i [102,111,114]:=At.lit C hA (by decide)
   have a1 : At c l (i + 1) (tks q n .exp x ++ tks q n .blk y):=hA.2
   have p1:=blk_first C hy (r:=[]) (by simpa using a1.snd)
   have e1:=(exp_first C n x hx (hks x (by simp [Tr.kids]))).1 _ a1.fst
   simp only [List.length_append,List.length_cons,List.length_nil] at hm ⊢
   rw [stmtR,if_neg (by rw [p0.no rfl]; simp),if_neg (by rw [p0.no rfl]; simp),if_pos p0.yes,forR,if_neg (by rw [e1.no (by decide)]; simp),cond_back C I hx (hks x (by simp [Tr.kids])) a1.fst p1 (by omega)]
   simp only [Res.bind]
   rw [I.blk y m _ hy (hks y (by simp [Tr.kids])) a1.snd (by omega)]
   simp only
   congr 1; omega
  | ret ks hk =>
   have hT : tks q (n + 1) .stm (.mk 27 [] 0 ks) = [[114,101,116,117,114,110]] ++ (commasT (tks q n .exp) ks ++ [[59]]):=by simp [tks,stmT,simT,Tr.kind,Tr.kids]
   rw [hT] at hA hm ⊢
   have p0 : Lit l i [114,101,116,117,114,110]:=At.lit C hA (by decide)
   have a1 : At c l (i + 1) (commasT (tks q n .exp) ks ++ [[59]]):=hA.2
   have p3:=At.lit C a1.snd (by decide)
   simp only [List.length_append,List.length_cons,List.length_nil] at hm ⊢
   rw [stmtR,if_neg (by rw [p0.no rfl]; simp),if_neg (by rw [p0.no rfl]; simp),if_neg (by rw [p0.no rfl]; simp),simpleR,if_neg (by rw [p0.no rfl]; simp),if_neg (by rw [p0.no rfl]; simp),if_neg (by rw [p0.no rfl]; simp),if_pos p0.yes]
   by_cases hne : ks = []
   · subst hne
     simp only [commasT,List.length_nil,Nat.add_zero] at p3 ⊢
     rw [if_pos p3.yes]
     simp only [Res.bind,needB p3]
   · have a0:=exps_first C hne hk hks a1
     rw [if_neg (by rw [a0.1.no (by decide)]; simp),exprs_back C I hne hk hks a1.fst p3 (by decide) (by omega)]
     simp only [Res.bind,needB p3]
     congr 1; omega
  | brk =>
   have p0 : Lit l i [98,114,101,97,107]:=At.lit C (show At c l i ([98,114,101,97,107] :: [[59]]) from hA) (by decide)
   have p1 : Lit l (i + 1) [59]:=At.lit C (show At c l i ([98,114,101,97,107] :: [[59]]) from hA).2 (by decide)
   rw [stmtR,if_neg (by rw [p0.no rfl]; simp),if_neg (by rw [p0.no rfl]; simp),if_neg (by rw [p0.no rfl]; simp),simpleR,if_neg (by rw [p0.no rfl]; simp),if_pos p0.yes]
   simp only [Res.bind,needB p1]
   rfl
  | nxt =>
   have p0 : Lit l i [99,111,110,116,105,110,117,101]:=At.lit C (show At c l i ([99,111,110,116,105,110,117,101] :: [[59]]) from hA) (by decide)
   have p1 : Lit l (i + 1) [59]:=At.lit C (show At c l i ([99,111,110,116,105,110,117,101] :: [[59]]) from hA).2 (by decide)
   rw [stmtR,if_neg (by rw [p0.no rfl]; simp),if_neg (by rw [p0.no rfl]; simp),if_neg (by rw [p0.no rfl]; simp),simpleR,if_neg (by rw [p0.no rfl]; simp),if_neg (by rw [p0.no rfl]; simp),if_pos p0.yes]
   simp only [Res.bind,needB p1]
   rfl
theorem bk_all (C : Clw q c) : ∀ n,Bk q c l n
  | 0 => ⟨fun _ _ _ h => (by cases h),fun _ _ _ h => (by cases h),fun _ _ _ h => (by cases h),fun _ _ _ h => (by cases h),fun _ _ _ h => (by cases h),fun _ _ _ h => (by cases h),fun _ _ _ h => (by cases h),fun _ _ _ _ h => (by cases h)⟩
  | n + 1 => have I:=bk_all C n
    ⟨typ_bk C I,par_bk C I,sig_bk C I,blk_bk C I,fun t m i hs hn hA hz hm => if_back C I t m i hs hn hA hz hm,els_bk C I,stm_bk C I,exp_bk C I⟩
theorem rec_inv (h : recB (snd n) t = true) : ∃ s u,t = .mk 8 s 0 [.mk 11 [] 0 [.mk 10 u 0 []]] ∧ nameP s = true ∧ nameP u = true ∧ listedT [40] [41] (parT (tks q n)) [t] = [[40],s,[42],u,[41]]:=by
 simp only [recB,Bool.and_eq_true] at h
 obtain ⟨h,h2⟩:=h
 obtain ⟨s,y,rfl,hs,hy⟩:=par_inv h
 simp only [Tr.kids,Bool.and_eq_true,beq_iff_eq] at h2
 obtain ⟨h3,h4⟩:=h2
 match n,hy with
 | 0,hy => simp [snd] at hy
 | n + 1,hy =>
  obtain ⟨k,u,v,ks⟩:=y
  simp only [Tr.kind] at h3
  subst h3
  simp [snd,typB,bareT,Tr.kind,Tr.text,Tr.num,Tr.kids] at hy
  obtain ⟨⟨rfl,rfl⟩,hk⟩:=hy
  obtain ⟨z,rfl,hz⟩:=row1B hk
  simp only [beq_iff_eq] at h4
  match n,hz with
  | 0,hz => simp [snd] at hz
  | n + 1,hz =>
   obtain ⟨k,u,v,ks⟩:=z
   simp only [Tr.kind] at h4
   subst h4
   simp [snd,typB,namedT,Tr.kind,Tr.text,Tr.num,Tr.kids] at hz
   obtain ⟨⟨rfl,hu⟩,hk2⟩:=hz
   have:=List.eq_nil_of_length_eq_zero (rowB_length hk2)
   subst this
   exact ⟨s,u,rfl,hs,hu,by simp [listedT,commasT,parT,tks,typT,kidT,Tr.kind,Tr.kids,Tr.text]⟩
theorem fld_back (C : Clw q c) (hs : fldB (snd n) t = true) (hA : At c l i (fldT (tks q n) t)) (hm : 3 * (fldT (tks q n) t).length ≤ m) : fieldR l (ps l m) i = .ok t (i + (fldT (tks q n) t).length):=by
 obtain ⟨k,s,v,ks⟩:=t
 simp only [fldB,namedT,Tr.kind,Tr.text,Tr.num,Tr.kids,Bool.and_eq_true,beq_iff_eq] at hs
 obtain ⟨rfl,⟨rfl,h0⟩,hk⟩:=hs
 obtain ⟨x,rfl,hx⟩:=row1B hk
 have hT : fldT (tks q n) (.mk 6 s 0 [x]) = [s] ++ (tks q n .typ x ++ [[59]]):=by simp [fldT,Tr.kids,Tr.text,kidT]
 rw [hT] at hA hm ⊢
 have a1 : At c l (i + 1) (tks q n .typ x ++ [[59]]):=hA.2
 have p1:=At.lit C a1.snd (by decide)
 simp only [List.length_append,List.length_cons,List.length_nil] at hm ⊢
 rw [fieldR,nameB C hA.1 h0]
 simp only [Res.bind]
 rw [(bk_all C n).typ x m _ hx a1.fst (.of p1 (by decide)) (by omega)]
 simp only [needB p1]
 congr 1; omega
theorem met_back (C : Clw q c) (hs : metB (snd n) t = true) (hA : At c l i (metT (tks q n) t)) (hm : 3 * (metT (tks q n) t).length ≤ m) : methodR l (ps l m) i = .ok t (i + (metT (tks q n) t).length):=by
 obtain ⟨k,s,v,ks⟩:=t
 simp only [metB,namedT,Tr.kind,Tr.text,Tr.num,Tr.kids,Bool.and_eq_true,beq_iff_eq] at hs
 obtain ⟨rfl,⟨rfl,h0⟩,hk⟩:=hs
 obtain ⟨x,rfl,hx⟩:=row1B hk
 have hT : metT (tks q n) (.mk 6 s 0 [x]) = [s] ++ (tks q n .sig x ++ [[59]]):=by simp [metT,Tr.kids,Tr.text,kidT]
 rw [hT] at hA hm ⊢
 have a1 : At c l (i + 1) (tks q n .sig x ++ [[59]]):=hA.2
 have p1:=At.lit C a1.snd (by decide)
 simp only [List.length_append,List.length_cons,List.length_nil] at hm ⊢
 rw [methodR,nameB C hA.1 h0]
 simp only [Res.bind]
 rw [(bk_all C n).sig x m _ hx a1.fst (.of p1 (by decide)) (by omega)]
 simp only [needB p1]
 congr 1; omega
theorem mem_first (C : Clw q c) {f : Tr → List Wd} (hn : nameP t.text = true) (hf : ∃ r,f t = t.text :: r) (hA : At c l i (f t)) : isM l i [125] = false:=by
 obtain ⟨r,hr⟩:=hf
 rw [hr] at hA
 exact not_lit (.inl (kind1 C hA.1 hn).1) _
theorem dec_back (C : Clw q c) (hs : decB n t = true) (hn : nmT (n + 2) t) (hA : At c l i (decT q n t)) (hm : 3 * (decT q n t).length ≤ m) : declR l (ps l m) i = .ok t (i + (decT q n t).length):=by
 obtain ⟨k,s,v,ks⟩:=t
 by_cases e2 : k = 2
 · subst e2
   simp [decB,namedT,Tr.kind,Tr.text,Tr.num,Tr.kids] at hs
   obtain ⟨⟨rfl,h0⟩,hk⟩:=hs
   have hT : decT q n (.mk 2 s 0 ks) = [[116,121,112,101],s,[115,116,114,117,99,116]] ++ membersT (fldT (tks q n)) ks:=by simp [decT,Tr.kind,Tr.text,Tr.kids]
   rw [hT] at hA hm ⊢
   have p0 : Lit l i [116,121,112,101]:=At.lit C hA (by decide)
   have p1 : Lit l (i + 1 + 1) [115,116,114,117,99,116]:=At.lit C hA.2.2 (by decide)
   have a1 : At c l (i + 1 + 1 + 1) (membersT (fldT (tks q n)) ks):=hA.2.2.2
   simp only [List.length_append,List.length_cons,List.length_nil] at hm ⊢
   rw [declR,if_pos p0.yes,typeDeclR,nameB C hA.2.1 h0]
   simp only [Res.bind]
   rw [if_pos p1.yes,members_back C (f:=fldT (tks q n)) (E:=fun _ => True) (fun _ _ => trivial)
     (fun k h j a _ => fld_back C (hk k h) a (by have:=flat_len (f:=fldT (tks q n)) h; simp only [membersT,List.length_append,List.length_cons,List.length_nil] at hm; omega))
     (fun k h j a => ⟨mem_first C (f:=fldT (tks q n)) (by have:=hk k h; simp [fldB,namedT] at this; exact this.2.1.2) ⟨_,rfl⟩ a,trivial⟩) (fun k _ => by simp [fldT]) a1]
   simp only
   congr 1; omega
 by_cases e3 : k = 3
 · subst e3
   simp [decB,namedT,Tr.kind,Tr.text,Tr.num,Tr.kids] at hs
   obtain ⟨⟨rfl,h0⟩,hk⟩:=hs
   have hT : decT q n (.mk 3 s 0 ks) = [[116,121,112,101],s,[105,110,116,101,114,102,97,99,101]] ++ membersT (metT (tks q n)) ks:=by simp [decT,Tr.kind,Tr.text,Tr.kids]
   rw [hT] at hA hm ⊢
   have p0 : Lit l i [116,121,112,101]:=At.lit C hA (by decide)
   have p1 : Lit l (i + 1 + 1) [105,110,116,101,114,102,97,99,101]:=At.lit C hA.2.2 (by decide)
   have a1 : At c l (i + 1 + 1 + 1) (membersT (metT (tks q n)) ks):=hA.2.2.2
   simp only [List.length_append,List.length_cons,List.length_nil] at hm ⊢
   rw [declR,if_pos p0.yes,typeDeclR,nameB C hA.2.1 h0]
   simp only [Res.bind]
   rw [if_neg (by rw [p1.no rfl]; simp),needB p1]
   simp only
   rw [members_back C (f:=metT (tks q n)) (E:=fun _ => True) (fun _ _ => trivial)
     (fun k h j a _ => met_back C (hk k h) a (by have:=flat_len (f:=metT (tks q n)) h; simp only [membersT,List.length_append,List.length_cons,List.length_nil] at hm; omega))
     (fun k h j a => ⟨mem_first C (f:=metT (tks q n)) (by have:=hk k h; simp [metB,namedT] at this; exact this.2.1.2) ⟨_,rfl⟩ a,trivial⟩) (fun k _ => by simp [metT]) a1]
   simp only
   congr 1; omega
 by_cases e4 : k = 4
 · subst e4
   simp [decB,namedT,Tr.kind,Tr.text,Tr.num,Tr.kids] at hs
   obtain ⟨⟨rfl,h0⟩,hk⟩:=hs
   obtain ⟨x,y,rfl,hx,hy⟩:=row2B hk
   have hT : decT q n (.mk 4 s 0 [x,y]) = [[102,117,110,99],s] ++ (tks q (n + 1) .sig x ++ tks q (n + 1) .blk y):=by simp [decT,Tr.kind,Tr.text,Tr.kids,kidT]
   rw [hT] at hA hm ⊢
   have p0 : Lit l i [102,117,110,99]:=At.lit C hA (by decide)
   have a1 : At c l (i + 1 + 1) (tks q (n + 1) .sig x ++ tks q (n + 1) .blk y):=hA.2.2
   have p2:=blk_first C hy (r:=[]) (by simpa using a1.snd)
   simp only [List.length_append,List.length_cons,List.length_nil] at hm ⊢
   rw [declR,if_neg (by rw [p0.no rfl]; simp),needB p0]
   simp only [Res.bind]
   rw [if_neg (by rw [not_lit (.inl (kind1 C hA.2.1 h0).1)]; simp),nameB C hA.2.1 h0]
   simp only
   rw [(bk_all C (n + 1)).sig x m _ hx a1.fst (.of p2 (by decide)) (by omega)]
   simp only
   rw [(bk_all C (n + 1)).blk y m _ hy (hn.2 y (by simp [Tr.kids])) a1.snd (by omega)]
   simp only
   congr 1; omega
 by_cases e5 : k = 5
 · subst e5
   simp [decB,namedT,Tr.kind,Tr.text,Tr.num,Tr.kids] at hs
   obtain ⟨⟨rfl,h0⟩,hk⟩:=hs
   obtain ⟨z,x,y,rfl,hz,hx,hy⟩:=row3B hk
   obtain ⟨u,w,rfl,hu,hw,hT0⟩:=rec_inv (q:=q) hz
   have hT : decT q n (.mk 5 s 0 [.mk 8 u 0 [.mk 11 [] 0 [.mk 10 w 0 []]],x,y]) = [[102,117,110,99],[40],u,[42],w,[41],s] ++ (tks q (n + 1) .sig x ++ tks q (n + 1) .blk y):=by
    show [[102,117,110,99]] ++ (listedT [40] [41] (parT (tks q n)) [.mk 8 u 0 [.mk 11 [] 0 [.mk 10 w 0 []]]] ++ ([s] ++ (tks q (n + 1) .sig x ++ tks q (n + 1) .blk y))) = _
    rw [hT0]; rfl
   rw [hT] at hA hm ⊢
   have p0 : Lit l i [102,117,110,99]:=At.lit C hA (by decide)
   have p1 : Lit l (i + 1) [40]:=At.lit C hA.2 (by decide)
   have p2 : Lit l (i + 1 + 1 + 1) [42]:=At.lit C hA.2.2.2 (by decide)
   have p3 : Lit l (i + 1 + 1 + 1 + 1 + 1) [41]:=At.lit C hA.2.2.2.2.2 (by decide)
   have a1 : At c l (i + 1 + 1 + 1 + 1 + 1 + 1 + 1) (tks q (n + 1) .sig x ++ tks q (n + 1) .blk y):=hA.2.2.2.2.2.2.2
   have p4:=blk_first C hy (r:=[]) (by simpa using a1.snd)
   simp only [List.length_append,List.length_cons,List.length_nil] at hm ⊢
   rw [declR,if_neg (by rw [p0.no rfl]; simp),needB p0]
   simp only [Res.bind]
   rw [if_pos p1.yes,betweenR,needB p1]
   simp only [Res.bind]
   rw [receiverR,nameB C hA.2.2.1 hu]
   simp only [Res.bind,needB p2]
   rw [nameB C hA.2.2.2.2.1 hw]
   simp only [needB p3]
   rw [nameB C hA.2.2.2.2.2.2.1 h0]
   simp only
   rw [(bk_all C (n + 1)).sig x m _ hx a1.fst (.of p4 (by decide)) (by omega)]
   simp only
   rw [(bk_all C (n + 1)).blk y m _ hy (hn.2 y (by simp [Tr.kids])) a1.snd (by omega)]
   simp only
   congr 1; omega
 simp [decB,Tr.kind,e2,e3,e4,e5] at hs
theorem dec_first (C : Clw q c) (hs : decB n t = true) (hA : At c l i (decT q n t)) : isM l i [] = false ∧ 1 ≤ (decT q n t).length:=by
 have lt : ∀ {s : Wd} {ws : List Wd},s ∈ [[116,121,112,101],[102,117,110,99]] → At c l i (s :: ws) → isM l i [] = false:=fun {s} {ws} hs hA => by
  have hf : ∀ s : Wd,s ∈ [[116,121,112,101],[102,117,110,99]] → s ∈ marksL ++ wordsL ∧ (s == []) = false:=by decide
  exact (hA.lit C (hf s hs).1).no (hf s hs).2
 by_cases e2 : t.kind = 2
 · have e : (t.kind == 2) = true:=by simp [e2]
   unfold decT at hA ⊢
   rw [if_pos e] at hA ⊢
   exact ⟨lt (s:=[116,121,112,101]) (by decide) hA,by simp⟩
 by_cases e3 : t.kind = 3
 · have e : (t.kind == 3) = true:=by simp [e3]
   unfold decT at hA ⊢
   rw [if_neg (by simpa using e2),if_pos e] at hA ⊢
   exact ⟨lt (s:=[116,121,112,101]) (by decide) hA,by simp⟩
 by_cases e4 : t.kind = 4
 · have e : (t.kind == 4) = true:=by simp [e4]
   unfold decT at hA ⊢
   rw [if_neg (by simpa using e2),if_neg (by simpa using e3),if_pos e] at hA ⊢
   exact ⟨lt (s:=[102,117,110,99]) (by decide) hA,by simp⟩
 by_cases e5 : t.kind = 5
 · have e : (t.kind == 5) = true:=by simp [e5]
   unfold decT at hA ⊢
   rw [if_neg (by simpa using e2),if_neg (by simpa using e3),if_neg (by simpa using e4),if_pos e] at hA ⊢
   exact ⟨lt (s:=[102,117,110,99]) (by decide) hA,by simp⟩
 simp [decB,e2,e3,e4,e5] at hs
theorem dec_len (hs : decB n t = true) : 1 ≤ (decT q n t).length:=by
 unfold decB at hs
 unfold decT
 split
 · simp
 split
 · simp
 split
 · simp
 split
 · simp
 · rename_i h1 h2 h3 h4
   rw [if_neg h1,if_neg h2,if_neg h3,if_neg h4] at hs; cases hs
/-- The tokens of a sound tree's words, and the end behind them, are that tree. -/
theorem tree_back (C : Clw q c) (hs : prgB t = true) (hn : nmT 100 t) (hA : At c l 0 (prgT q t)) (hz : isM l (prgT q t).length [] = true) : treeR l = .ok t (prgT q t).length:=by
 obtain ⟨k,s,v,ks⟩:=t
 simp only [prgB,bareT,Tr.kind,Tr.text,Tr.num,Tr.kids,Bool.and_eq_true,beq_iff_eq,List.all_eq_true] at hs
 obtain ⟨rfl,⟨rfl,rfl⟩,hk⟩:=hs
 have hA' : At c l 0 (ks.flatMap (decT q 97)):=hA
 have hz' : isM l (0 + (ks.flatMap (decT q 97)).length) [] = true:=by rw [Nat.zero_add]; exact hz
 have hl:=hA'.len
 rw [treeR,progR,upTo_back (E:=fun _ => True) (fun k h j a _ => dec_back C (hk k h) (hn.2 k h) a (by have:=flat_len (f:=decT q 97) h; omega)) (fun k h j a => ⟨(dec_first C (hk k h) a).1,trivial⟩) (fun k h => dec_len (hk k h)) hA' trivial hz']
 simp only [Res.bind,Nat.zero_add]
 rfl
end
end Go.Proofs.YtffnaknidofobaaGreatDoor
