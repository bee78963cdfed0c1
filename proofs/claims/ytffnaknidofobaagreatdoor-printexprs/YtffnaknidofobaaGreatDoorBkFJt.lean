/- There and back, plain: expressions. -/
import Derived.Test.YtffnaknidofobaaGreatDoorBkBJt
namespace Go.Proofs.YtffnaknidofobaaGreatDoor
section
variable {q : List UInt8 → Wd} {c : Wd → Int × List UInt8 × Int} {l : List Tk} {i j m n : Nat} {s x : Wd} {a b ws : List Wd} {t : Tr} {h : Bool}
theorem leaf_done {f : Nat} {p : Ps} {L : Nat} (e : primR l p h i = .ok t (i + L)) (hf : f = l.length + 1) : ∃ f,l.length + 1 ≤ f + L ∧ postR l p h i = postF l p f t (i + L) :=
  ⟨f,by omega,by rw [postR,e,hf]; rfl⟩
theorem prim_lit (h0 : Lit l i s) : kindA l i ≠ 1 ∧ kindA l i ≠ 2 ∧ kindA l i ≠ 3:=by
 rcases h0.2.1 with e | e <;> rw [e] <;> decide
/-- What stands between round brackets. -/
theorem prim_paren {p : Ps} {y : Tr} {k : Nat} (h0 : Lit l i [40]) (e : exprR p false (i + 1) = .ok y k) (h1 : Lit l k [41]) : primR l p h i = .ok y (k + 1):=by
 have hk:=prim_lit h0
 rw [primR,if_neg (by simpa using hk.2.1),if_neg (by simpa using hk.2.2),if_neg (by simpa using hk.1),if_neg (by rw [h0.no rfl]; simp),if_neg (by rw [h0.no rfl]; simp),if_neg (by rw [h0.no rfl]; simp),if_pos h0.yes,betweenR,needB h0]
 simp only [Res.bind,e,needB h1]
theorem prefix_mem : ∀ {s : Wd},prefixL s = true → s ∈ marksL:=by
 intro s hs
 simp only [prefixL,Bool.or_eq_true,beq_iff_eq] at hs
 rcases hs with ((h | h) | h) | h <;> subst h <;> decide
theorem rank_mem : ∀ {s : Wd},0 < rankL s → s ∈ marksL ∧ s ∉ [[46],[91],[40]] ∧ (s == [123]) = false:=by
 intro s hs
 unfold rankL at hs
 split at hs
 · rename_i e; rw [beq_iff_eq] at e; subst e; decide
 split at hs
 · rename_i e; rw [beq_iff_eq] at e; subst e; decide
 split at hs
 · rename_i e; simp only [Bool.or_eq_true,beq_iff_eq] at e
   rcases e with ((((e | e) | e) | e) | e) | e <;> subst e <;> decide
 split at hs
 · rename_i e; simp only [Bool.or_eq_true,beq_iff_eq] at e
   rcases e with e | e <;> subst e <;> decide
 split at hs
 · rename_i e; simp only [Bool.or_eq_true,beq_iff_eq] at e
   rcases e with (e | e) | e <;> subst e <;> decide
 · omega
theorem exp_bk (C : Clw q c) (I : Bk q c l n) (t : Tr) (m i : Nat) (h : Bool) (hs : snd (n + 1) .exp t = true) (hn : nmT (n + 1) t) (hA : At c l i (tks q (n + 1) .exp t)) (hb : h = false → isM l (i + (tks q (n + 1) .exp t).length) [123] = false) (hm : 3 * (tks q (n + 1) .exp t).length ≤ m) :
    ∃ f,l.length + 1 ≤ f + (tks q (n + 1) .exp t).length ∧ postR l (ps l m) h i = postF l (ps l m) f t (i + (tks q (n + 1) .exp t).length):=by
  have hc:=exp_cases (show expB (snd n) t = true from hs)
  have hks:=hn.2
  have hn1:=hn.1
  clear hs hn
  cases hc with
  | int k h0 =>
   have h1 : Tk1 c l i (Lib.itoa k):=hA.1
   obtain ⟨_,h1,h2,h3⟩:=h1
   rw [C.nu k h0 hn1] at h1 h3
   exact leaf_done (L:=1) (by simp [primR,h1,h3]) rfl
  | str s h0 =>
   have h1 : Tk1 c l i (q s):=hA.1
   obtain ⟨_,h1,h2,h3⟩:=h1
   rw [C.st s h0] at h1 h2
   exact leaf_done (L:=1) (by simp [primR,h1,h2]) rfl
  | tt =>
   have h0 : Lit l i [116,114,117,101]:=At.lit C hA (by decide)
   have hk:=prim_lit h0
   exact leaf_done (L:=1) (by simp [primR,hk.1,hk.2.1,hk.2.2,h0.yes]) rfl
  | ff =>
   have h0 : Lit l i [102,97,108,115,101]:=At.lit C hA (by decide)
   have hk:=prim_lit h0
   exact leaf_done (L:=1) (by rw [primR,if_neg (by simpa using hk.2.1),if_neg (by simpa using hk.2.2),if_neg (by simpa using hk.1),if_neg (by rw [h0.no rfl]; simp),if_pos h0.yes]) rfl
  | nil =>
   have h0 : Lit l i [110,105,108]:=At.lit C hA (by decide)
   have hk:=prim_lit h0
   exact leaf_done (L:=1) (by rw [primR,if_neg (by simpa using hk.2.1),if_neg (by simpa using hk.2.2),if_neg (by simpa using hk.1),if_neg (by rw [h0.no rfl]; simp),if_neg (by rw [h0.no rfl]; simp),if_pos h0.yes]) rfl
  | name s h0 =>
   have h1 : Tk1 c l i s:=hA.1
   have h2:=kind1 C h1 h0
   have hb' : h = false → isM l (i + 1) [123] = false:=hb
   refine leaf_done (L:=1) ?_ rfl
   rw [primR,if_neg (by simp [h2.1]),if_neg (by simp [h2.1]),if_pos (by simp [h2.1]),namedR,nameB C h1 h0]
   simp only [Res.bind]
   rw [if_neg]
   cases h with
   | true => simp
   | false => simp [hb' rfl]
  | lit s ks h0 hk =>
   have hL : (tks q (n + 1) .exp (.mk 45 s 0 ks)).length = 2 + (listedT [123] [125] (tks q n .exp) ks).length + 1:=by simp [tks,expT,Tr.kind,Tr.kids]; omega
   have hA' : At c l i ([[40],s] ++ (listedT [123] [125] (tks q n .exp) ks ++ [[41]])):=hA
   rw [hL] at hm ⊢
   have p0 : Lit l i [40]:=At.lit C hA' (by decide)
   have h2:=kind1 C hA'.2.1 h0
   have hA2 : At c l (i + 2) (listedT [123] [125] (tks q n .exp) ks ++ [[41]]):=hA'.2.2
   have p1 : Lit l (i + 2) [123]:=At.lit C hA2.fst (by decide)
   have p2:=At.lit C hA2.snd (by decide)
   obtain ⟨m,rfl⟩ : ∃ k,m = k + 2:=⟨m - 2,by omega⟩
   have e1:=exprs_listed C I (m:=m) (by decide) (by decide) hk hks hA2.fst (by omega)
   refine leaf_done (prim_paren p0 (y:=.mk 45 s 0 ks) (k:=i + 2 + (listedT [123] [125] (tks q n .exp) ks).length) ?_ p2 |>.trans (by congr 1; omega)) rfl
   show binS l (ps l (m + 1)) false 1 (i + 1) = _
   have e2 : (ps l (m + 1)).una false (i + 1) = .ok (.mk 45 s 0 ks) (i + 2 + (listedT [123] [125] (tks q n .exp) ks).length):=by
    show unaS l (ps l m) false (i + 1) = _
    have : prefixL (markA l (i + 1)) = false:=by simp [markA,h2.1,prefixL]
    rw [unaS,if_neg (by rw [this]; simp),postR,primR,if_neg (by simp [h2.1]),if_neg (by simp [h2.1]),if_pos (by simp [h2.1]),namedR,nameB C hA'.2.1 h0]
    simp only [Res.bind]
    rw [if_pos (by simp [p1.yes]),elementsR,e1]
    simp only
    exact post_end (by omega) (p2.po (by decide) (by decide))
   rw [binS,e2]
   simp only [Res.bind,binF]
   rw [if_neg (by rw [p2.rank (by decide)]; omega)]
  | list x ks hx hk =>
   have hL : (tks q (n + 1) .exp (.mk 46 [] 0 (x :: ks))).length = 2 + (tks q n .typ x).length + (listedT [123] [125] (tks q n .exp) ks).length:=by simp [tks,expT,Tr.kind,Tr.kids,kidT]; omega
   have hA' : At c l i ([[91],[93]] ++ (tks q n .typ x ++ listedT [123] [125] (tks q n .exp) ks)):=hA
   rw [hL] at hm ⊢
   have p0 : Lit l i [91]:=At.lit C hA' (by decide)
   have p1 : Lit l (i + 1) [93]:=At.lit C hA'.2 (by decide)
   have hA2 : At c l (i + 2) (tks q n .typ x ++ listedT [123] [125] (tks q n .exp) ks):=hA'.2.2
   have p2 : Lit l (i + 2 + (tks q n .typ x).length) [123]:=At.lit C hA2.snd (by decide)
   have hk0:=prim_lit p0
   refine leaf_done ?_ rfl
   rw [primR,if_neg (by simpa using hk0.2.1),if_neg (by simpa using hk0.2.2),if_neg (by simpa using hk0.1),if_neg (by rw [p0.no rfl]; simp),if_neg (by rw [p0.no rfl]; simp),if_neg (by rw [p0.no rfl]; simp),if_neg (by rw [p0.no rfl]; simp),if_pos p0.yes,needB p1]
   simp only [Res.bind]
   rw [I.typ x m (i + 1 + 1) hx hA2.fst (.of p2 (by decide)) (by omega)]
   simp only
   rw [elementsR,exprs_listed C I (by decide) (by decide) hk (fun k hk => hks k (List.mem_cons_of_mem _ hk)) hA2.snd (by omega)]
   simp only [Nat.add_assoc]
  | func x y hx hy =>
   have hL : (tks q (n + 1) .exp (.mk 47 [] 0 [x,y])).length = 1 + (tks q n .sig x).length + (tks q n .blk y).length:=by simp [tks,expT,Tr.kind,Tr.kids,kidT]; omega
   have hA' : At c l i ([[102,117,110,99]] ++ (tks q n .sig x ++ tks q n .blk y)):=hA
   rw [hL] at hm ⊢
   have p0 : Lit l i [102,117,110,99]:=At.lit C hA' (by decide)
   have hA2 : At c l (i + 1) (tks q n .sig x ++ tks q n .blk y):=hA'.2
   have p2 : Lit l (i + 1 + (tks q n .sig x).length) [123]:=by
    have:=hA2.snd
    match n,hy with
    | n + 1,_ => exact At.lit C (show At c l _ ([123] :: _) from this) (by decide)
   have hk0:=prim_lit p0
   refine leaf_done ?_ rfl
   rw [primR,if_neg (by simpa using hk0.2.1),if_neg (by simpa using hk0.2.2),if_neg (by simpa using hk0.1),if_neg (by rw [p0.no rfl]; simp),if_neg (by rw [p0.no rfl]; simp),if_neg (by rw [p0.no rfl]; simp),if_neg (by rw [p0.no rfl]; simp),if_neg (by rw [p0.no rfl]; simp),needB p0]
   simp only [Res.bind]
   rw [I.sig x m (i + 1) hx hA2.fst (.of p2 (by decide)) (by omega)]
   simp only
   rw [I.blk y m _ hy (hks y (by simp [Tr.kids])) hA2.snd (by omega)]
   simp only [Nat.add_assoc]
  | una s x h0 hx =>
   have hL : (tks q (n + 1) .exp (.mk 52 s 0 [x])).length = 2 + (tks q n .exp x).length + 1:=by simp [tks,expT,Tr.kind,Tr.kids,kidT]; omega
   have hA' : At c l i ([[40],s] ++ (tks q n .exp x ++ [[41]])):=hA
   rw [hL] at hm ⊢
   have p0 : Lit l i [40]:=At.lit C hA' (by decide)
   have hmk:=mark_of C hA'.2.1 (prefix_mem h0)
   have hA2 : At c l (i + 2) (tks q n .exp x ++ [[41]]):=hA'.2.2
   have p2:=At.lit C hA2.snd (by decide)
   obtain ⟨m,rfl⟩ : ∃ k,m = k + 2:=⟨m - 2,by omega⟩
   refine leaf_done (prim_paren p0 (y:=.mk 52 s 0 [x]) (k:=i + 2 + (tks q n .exp x).length) ?_ p2 |>.trans (by congr 1; omega)) rfl
   show binS l (ps l (m + 1)) false 1 (i + 1) = _
   have e2 : (ps l (m + 1)).una false (i + 1) = .ok (.mk 52 s 0 [x]) (i + 2 + (tks q n .exp x).length):=by
    show unaS l (ps l m) false (i + 1) = _
    rw [unaS,hmk,if_pos h0,una_back C I hx (hks x (by simp [Tr.kids])) hA2.fst (p2.po (by decide) (by decide)) (fun _ => p2.no rfl) (by omega)]
    rfl
   rw [binS,e2]
   simp only [Res.bind,binF]
   rw [if_neg (by rw [p2.rank (by decide)]; omega)]
  | bin s x y h0 hx hy =>
   have hL : (tks q (n + 1) .exp (.mk 53 s 0 [x,y])).length = 1 + (tks q n .exp x).length + 1 + (tks q n .exp y).length + 1:=by simp [tks,expT,Tr.kind,Tr.kids,kidT]; omega
   have hA' : At c l i ([[40]] ++ (tks q n .exp x ++ ([s] ++ (tks q n .exp y ++ [[41]])))):=hA
   rw [hL] at hm ⊢
   have p0 : Lit l i [40]:=At.lit C hA' (by decide)
   have hA2 : At c l (i + 1) (tks q n .exp x ++ ([s] ++ (tks q n .exp y ++ [[41]]))):=hA'.2
   have hA3:=hA2.snd
   have hA4 : At c l (i + 1 + (tks q n .exp x).length + 1) (tks q n .exp y ++ [[41]]):=hA3.2
   have hr:=rank_mem h0
   have hmk:=mark_of C hA3.1 hr.1
   have pm:=lit_of C hA3.1 (List.mem_append.2 (.inl hr.1))
   have p2:=At.lit C hA4.snd (by decide)
   obtain ⟨m,rfl⟩ : ∃ k,m = k + 2:=⟨m - 2,by omega⟩
   refine leaf_done (prim_paren p0 (y:=.mk 53 s 0 [x,y]) (k:=i + 1 + (tks q n .exp x).length + 1 + (tks q n .exp y).length) ?_ p2 |>.trans (by congr 1; omega)) rfl
   show binS l (ps l (m + 1)) false 1 (i + 1) = _
   rw [binS,una_back C I hx (hks x (by simp [Tr.kids])) hA2.fst (pm.po (List.mem_append.2 (.inl hr.1)) hr.2.1) (fun _ => pm.no hr.2.2) (by omega)]
   obtain ⟨L,hl⟩ : ∃ L,l.length + 1 = L + 2:=⟨l.length - 1,by have:=p2.1; omega⟩
   simp only [Res.bind,hl]
   rw [binF,hmk,if_pos (by omega),bin_back C I hy (hks y (by simp [Tr.kids])) hA4.fst (p2.po (by decide) (by decide)) (by rw [p2.rank (by decide)]; omega) (fun _ => p2.no rfl) (by omega)]
   simp only [Res.bind]
   rw [binF,if_neg (by rw [p2.rank (by decide)]; omega)]
  | sel s x h0 hx =>
   have hA' : At c l i (tks q n .exp x ++ [[46],s]):=hA
   have p0 : Lit l (i + (tks q n .exp x).length) [46]:=At.lit C hA'.snd (by decide)
   exact behind_back C I (b:=[[46],s]) hx (hks x (by simp [Tr.kids])) hA' (p0.no rfl) (by simp) hm fun f j hj a => by
    have p0 : Lit l j [46]:=At.lit C a (by decide)
    rw [postF,if_pos p0.yes,nameB C a.2.1 h0]; rfl
  | index x y hx hy =>
   have hT : tks q (n + 1) .exp (.mk 49 [] 0 [x,y]) = tks q n .exp x ++ ([[91]] ++ (tks q n .exp y ++ [[93]])):=by simp [tks,expT,behT,listedT,commasT,Tr.kind,Tr.kids,kidT]
   rw [hT] at hA hm ⊢
   have p0 : Lit l (i + (tks q n .exp x).length) [91]:=At.lit C hA.snd (by decide)
   refine behind_back C I hx (hks x (by simp [Tr.kids])) hA (p0.no rfl) (by simp) hm fun f j hj a => ?_
   simp only [List.length_append,List.length_cons,List.length_nil] at hm ⊢
   have p1 : Lit l j [91]:=At.lit C a (by decide)
   rw [postF,if_neg (by rw [p1.no rfl]; simp),if_pos p1.yes,betweenR,needB p1]
   simp only [Res.bind]
   have a1 : At c l (j + 1) (tks q n .exp y ++ [[93]]):=a.2
   have p2:=At.lit C a1.snd (by decide)
   have hy1:=(exp_first C n y hy (hks y (by simp [Tr.kids]))).1 (j + 1) a1.fst
   rw [partR,if_neg (by rw [hy1.no (by decide)]; simp),expr_back C I hy (hks y (by simp [Tr.kids])) a1.fst (.of p2 (by decide)) (by omega)]
   simp only [Res.bind]
   rw [if_neg (by rw [p2.no rfl]; simp)]
   simp only [needB p2]
   congr 1; omega
  | cut0 x hx =>
   have hT : tks q (n + 1) .exp (.mk 50 [] 0 [x]) = tks q n .exp x ++ [[91],[58],[93]]:=by simp [tks,expT,behT,Tr.kind,Tr.kids,Tr.num,kidT]
   rw [hT] at hA hm ⊢
   have p0 : Lit l (i + (tks q n .exp x).length) [91]:=At.lit C hA.snd (by decide)
   refine behind_back C I hx (hks x (by simp [Tr.kids])) hA (p0.no rfl) (by simp) hm fun f j hj a => ?_
   simp only [List.length_append,List.length_cons,List.length_nil] at hm ⊢
   have p1 : Lit l j [91]:=At.lit C a (by decide)
   rw [postF,if_neg (by rw [p1.no rfl]; simp),if_pos p1.yes,betweenR,needB p1]
   simp only [Res.bind]
   have p2 : Lit l (j + 1) [58]:=At.lit C a.2 (by decide)
   have p3 : Lit l (j + 1 + 1) [93]:=At.lit C a.2.2 (by decide)
   rw [partR,if_pos p2.yes,cutR,needB p2]
   simp only [Res.bind]
   rw [if_pos p3.yes]
   simp only [needB p3]
  | cut1 x y hx hy =>
   have hT : tks q (n + 1) .exp (.mk 50 [] 1 [x,y]) = tks q n .exp x ++ ([[91]] ++ (tks q n .exp y ++ [[58],[93]])):=by simp [tks,expT,behT,Tr.kind,Tr.kids,Tr.num,kidT]
   rw [hT] at hA hm ⊢
   have p0 : Lit l (i + (tks q n .exp x).length) [91]:=At.lit C hA.snd (by decide)
   refine behind_back C I hx (hks x (by simp [Tr.kids])) hA (p0.no rfl) (by simp) hm fun f j hj a => ?_
   simp only [List.length_append,List.length_cons,List.length_nil] at hm ⊢
   have p1 : Lit l j [91]:=At.lit C a (by decide)
   rw [postF,if_neg (by rw [p1.no rfl]; simp),if_pos p1.yes,betweenR,needB p1]
   simp only [Res.bind]
   have a1 : At c l (j + 1) (tks q n .exp y ++ [[58],[93]]):=a.2
   have p2:=At.lit C a1.snd (by decide)
   have p3:=At.lit C a1.snd.2 (by decide)
   have hy1:=(exp_first C n y hy (hks y (by simp [Tr.kids]))).1 (j + 1) a1.fst
   rw [partR,if_neg (by rw [hy1.no (by decide)]; simp),expr_back C I hy (hks y (by simp [Tr.kids])) a1.fst (.of p2 (by decide)) (by omega)]
   simp only [Res.bind]
   rw [if_pos p2.yes,cutR,needB p2]
   simp only [Res.bind]
   rw [if_pos p3.yes]
   simp only [needB p3]
   congr 1; omega
  | cut2 x y hx hy =>
   have hT : tks q (n + 1) .exp (.mk 50 [] 2 [x,y]) = tks q n .exp x ++ ([[91],[58]] ++ (tks q n .exp y ++ [[93]])):=by simp [tks,expT,behT,Tr.kind,Tr.kids,Tr.num,kidT]
   rw [hT] at hA hm ⊢
   have p0 : Lit l (i + (tks q n .exp x).length) [91]:=At.lit C hA.snd (by decide)
   refine behind_back C I hx (hks x (by simp [Tr.kids])) hA (p0.no rfl) (by simp) hm fun f j hj a => ?_
   simp only [List.length_append,List.length_cons,List.length_nil] at hm ⊢
   have p1 : Lit l j [91]:=At.lit C a (by decide)
   rw [postF,if_neg (by rw [p1.no rfl]; simp),if_pos p1.yes,betweenR,needB p1]
   simp only [Res.bind]
   have p2 : Lit l (j + 1) [58]:=At.lit C a.2 (by decide)
   have a1 : At c l (j + 1 + 1) (tks q n .exp y ++ [[93]]):=a.2.2
   have p3:=At.lit C a1.snd (by decide)
   have hy1:=(exp_first C n y hy (hks y (by simp [Tr.kids]))).1 (j + 1 + 1) a1.fst
   rw [partR,if_pos p2.yes,cutR,needB p2]
   simp only [Res.bind]
   rw [if_neg (by rw [hy1.no (by decide)]; simp),expr_back C I hy (hks y (by simp [Tr.kids])) a1.fst (.of p3 (by decide)) (by omega)]
   simp only [needB p3]
   show postF l (ps l m) f (.mk 50 [] 2 [x,y]) _ = _
   congr 1; omega
  | cut3 x y z hx hy hz =>
   have hT : tks q (n + 1) .exp (.mk 50 [] 3 [x,y,z]) = tks q n .exp x ++ ([[91]] ++ (tks q n .exp y ++ ([[58]] ++ (tks q n .exp z ++ [[93]])))):=by simp [tks,expT,behT,Tr.kind,Tr.kids,Tr.num,kidT]
   rw [hT] at hA hm ⊢
   have p0 : Lit l (i + (tks q n .exp x).length) [91]:=At.lit C hA.snd (by decide)
   refine behind_back C I hx (hks x (by simp [Tr.kids])) hA (p0.no rfl) (by simp) hm fun f j hj a => ?_
   simp only [List.length_append,List.length_cons,List.length_nil] at hm ⊢
   have p1 : Lit l j [91]:=At.lit C a (by decide)
   rw [postF,if_neg (by rw [p1.no rfl]; simp),if_pos p1.yes,betweenR,needB p1]
   simp only [Res.bind]
   have a1 : At c l (j + 1) (tks q n .exp y ++ ([[58]] ++ (tks q n .exp z ++ [[93]]))):=a.2
   have p2 : Lit l (j + 1 + (tks q n .exp y).length) [58]:=At.lit C a1.snd (by decide)
   have a2 : At c l (j + 1 + (tks q n .exp y).length + 1) (tks q n .exp z ++ [[93]]):=a1.snd.2
   have p3:=At.lit C a2.snd (by decide)
   have hy1:=(exp_first C n y hy (hks y (by simp [Tr.kids]))).1 (j + 1) a1.fst
   have hz1:=(exp_first C n z hz (hks z (by simp [Tr.kids]))).1 _ a2.fst
   rw [partR,if_neg (by rw [hy1.no (by decide)]; simp),expr_back C I hy (hks y (by simp [Tr.kids])) a1.fst (.of p2 (by decide)) (by omega)]
   simp only [Res.bind]
   rw [if_pos p2.yes,cutR,needB p2]
   simp only [Res.bind]
   rw [if_neg (by rw [hz1.no (by decide)]; simp),expr_back C I hz (hks z (by simp [Tr.kids])) a2.fst (.of p3 (by decide)) (by omega)]
   simp only [needB p3]
   show postF l (ps l m) f (.mk 50 [] 3 [x,y,z]) _ = _
   congr 1; omega
  | call x ks hx hk =>
   have hA' : At c l i (tks q n .exp x ++ listedT [40] [41] (tks q n .exp) ks):=hA
   have p0 : Lit l (i + (tks q n .exp x).length) [40]:=At.lit C hA'.snd (by decide)
   refine behind_back C I (b:=listedT [40] [41] (tks q n .exp) ks) hx (hks x (by simp [Tr.kids])) hA' (p0.no rfl) (by simp [listedT]) hm fun f j hj a => ?_
   have p0 : Lit l j [40]:=At.lit C a (by decide)
   have hm' : 3 * (tks q n .exp x ++ listedT [40] [41] (tks q n .exp) ks).length ≤ m:=hm
   simp only [List.length_append] at hm'
   rw [postF,if_neg (by rw [p0.no rfl]; simp),if_neg (by rw [p0.no rfl]; simp),if_pos p0.yes,exprs_listed C I (by decide) (by decide) hk (fun k hk => hks k (List.mem_cons_of_mem _ hk)) a (by omega)]
   rfl
end
end Go.Proofs.YtffnaknidofobaaGreatDoor

namespace Go.Proofs.YtffnaknidofobaaGreatDoor
inductive StmC (r : Q → Tr → Bool) : Tr → Prop where
  | blk (ks : List Tr) (hk : ∀ k ∈ ks,r .stm k = true) : StmC r (.mk 20 [] 0 ks)
  | if2 (x y : Tr) (hx : r .exp x = true) (hy : r .blk y = true) : StmC r (.mk 25 [] 0 [x,y])
  | if3 (x y z : Tr) (hx : r .exp x = true) (hy : r .blk y = true) (hz : r .els z = true) : StmC r (.mk 25 [] 0 [x,y,z])
  | var1 (s : List UInt8) (x : Tr) (h : nameP s = true) (hx : r .typ x = true) : StmC r (.mk 21 s 0 [x])
  | var2 (s : List UInt8) (x y : Tr) (h : nameP s = true) (hx : r .typ x = true) (hy : r .exp y = true) : StmC r (.mk 21 s 0 [x,y])
  | defn (a b : List Tr) (ha : a ≠ []) (hb : b ≠ []) (hp : a.all isNameT = true) (hk : ∀ k ∈ a ++ b,r .exp k = true) : StmC r (.mk 22 [] a.length (a ++ b))
  | asgn (a b : List Tr) (ha : a ≠ []) (hb : b ≠ []) (hp : a.all isPlaceT = true) (hk : ∀ k ∈ a ++ b,r .exp k = true) : StmC r (.mk 23 [] a.length (a ++ b))
  | call (x : Tr) (h : isCallT x = true) (hx : r .exp x = true) : StmC r (.mk 24 [] 0 [x])
  | for1 (y : Tr) (hy : r .blk y = true) : StmC r (.mk 26 [] 0 [y])
  | for2 (x y : Tr) (hx : r .exp x = true) (hy : r .blk y = true) : StmC r (.mk 26 [] 0 [x,y])
  | ret (ks : List Tr) (hk : ∀ k ∈ ks,r .exp k = true) : StmC r (.mk 27 [] 0 ks)
  | brk : StmC r (.mk 28 [] 0 [])
  | nxt : StmC r (.mk 29 [] 0 [])
theorem blk_inv {r : Q → Tr → Bool} {t : Tr} (h : blkB r t = true) : ∃ ks,t = .mk 20 [] 0 ks ∧ ∀ k ∈ ks,r .stm k = true:=by
 obtain ⟨k,s,n,ks⟩:=t
 simp [blkB,bareT,Tr.kind,Tr.text,Tr.num,Tr.kids] at h
 obtain ⟨rfl,⟨rfl,rfl⟩,h⟩:=h
 exact ⟨ks,rfl,h⟩
theorem if_inv {r : Q → Tr → Bool} {t : Tr} (h : ifB r t = true) : (∃ x y,t = .mk 25 [] 0 [x,y] ∧ r .exp x = true ∧ r .blk y = true) ∨ ∃ x y z,t = .mk 25 [] 0 [x,y,z] ∧ r .exp x = true ∧ r .blk y = true ∧ r .els z = true:=by
 obtain ⟨k,s,n,ks⟩:=t
 simp [ifB,bareT,Tr.kind,Tr.text,Tr.num,Tr.kids] at h
 obtain ⟨rfl,⟨rfl,rfl⟩,h | h⟩:=h
 · obtain ⟨x,y,rfl,hx,hy⟩:=row2B h; exact .inl ⟨x,y,rfl,hx,hy⟩
 · obtain ⟨x,y,z,rfl,hx,hy,hz⟩:=row3B h; exact .inr ⟨x,y,z,rfl,hx,hy,hz⟩
theorem asg_inv {r : Q → Tr → Bool} {p : Tr → Bool} {k : Int} {s : List UInt8} {v : Int} {ks : List Tr} (h : asgB r p (.mk k s v ks) = true) :
    ∃ a b : List Tr,s = [] ∧ v = a.length ∧ ks = a ++ b ∧ a ≠ [] ∧ b ≠ [] ∧ a.all p = true ∧ ∀ x ∈ a ++ b,r .exp x = true:=by
  simp only [asgB,numberedT,Tr.text,Tr.num,Tr.kids,Bool.and_eq_true,beq_iff_eq] at h
  obtain ⟨rfl,h0,h1,h2,h3⟩:=h
  have h0 : 0 < v:=of_decide_eq_true h0
  have h1 : v < ks.length:=of_decide_eq_true h1
  refine ⟨ks.take v.toNat,ks.drop v.toNat,rfl,by simp only [List.length_take]; omega,by simp,fun e => ?_,fun e => ?_,h2,by simpa using h3⟩
  · have:=congrArg List.length e; simp only [List.length_take,List.length_nil] at this; omega
  · have:=congrArg List.length e; simp only [List.length_drop,List.length_nil] at this; omega
theorem stm_cases {r : Q → Tr → Bool} {t : Tr} (h : stmB r t = true) : StmC r t:=by
 obtain ⟨k,s,n,ks⟩:=t
 by_cases e20 : k = 20
 · subst e20
   have h : blkB r (.mk 20 s n ks) = true:=by simpa [stmB,Tr.kind] using h
   obtain ⟨ks',e,hk⟩:=blk_inv h
   rw [e]; exact .blk _ hk
 by_cases e25 : k = 25
 · subst e25
   have h : ifB r (.mk 25 s n ks) = true:=by simpa [stmB,Tr.kind] using h
   rcases if_inv h with ⟨x,y,e,hx,hy⟩ | ⟨x,y,z,e,hx,hy,hz⟩
   · rw [e]; exact .if2 x y hx hy
   · rw [e]; exact .if3 x y z hx hy hz
 by_cases e21 : k = 21
 · subst e21
   simp [stmB,namedT,Tr.kind,Tr.text,Tr.num,Tr.kids] at h
   obtain ⟨⟨rfl,hn⟩,h | h⟩:=h
   · obtain ⟨x,rfl,hx⟩:=row1B h; exact .var1 s x hn hx
   · obtain ⟨x,y,rfl,hx,hy⟩:=row2B h; exact .var2 s x y hn hx hy
 by_cases e22 : k = 22
 · subst e22
   have h : asgB r isNameT (.mk 22 s n ks) = true:=by simpa [stmB,Tr.kind] using h
   obtain ⟨a,b,rfl,rfl,rfl,ha,hb,hp,hk⟩:=asg_inv h
   exact .defn a b ha hb hp hk
 by_cases e23 : k = 23
 · subst e23
   have h : asgB r isPlaceT (.mk 23 s n ks) = true:=by simpa [stmB,Tr.kind] using h
   obtain ⟨a,b,rfl,rfl,rfl,ha,hb,hp,hk⟩:=asg_inv h
   exact .asgn a b ha hb hp hk
 by_cases e24 : k = 24
 · subst e24
   simp [stmB,bareT,Tr.kind,Tr.text,Tr.num,Tr.kids] at h
   obtain ⟨⟨rfl,rfl⟩,h1,h2⟩:=h
   obtain ⟨x,rfl,hx⟩:=row1B h1
   obtain ⟨y,e,hy⟩:=row1B h2
   simp at e; subst e
   exact .call x hx hy
 by_cases e26 : k = 26
 · subst e26
   simp [stmB,bareT,Tr.kind,Tr.text,Tr.num,Tr.kids] at h
   obtain ⟨⟨rfl,rfl⟩,h | h⟩:=h
   · obtain ⟨x,rfl,hx⟩:=row1B h; exact .for1 x hx
   · obtain ⟨x,y,rfl,hx,hy⟩:=row2B h; exact .for2 x y hx hy
 by_cases e27 : k = 27
 · subst e27
   simp [stmB,bareT,Tr.kind,Tr.text,Tr.num,Tr.kids] at h
   obtain ⟨⟨rfl,rfl⟩,h⟩:=h
   exact .ret ks h
 by_cases e28 : k = 28
 · subst e28
   simp [stmB,bareT,Tr.kind,Tr.text,Tr.num,Tr.kids] at h
   obtain ⟨⟨rfl,rfl⟩,h⟩:=h
   have:=List.eq_nil_of_length_eq_zero (rowB_length h)
   subst this; exact .brk
 by_cases e29 : k = 29
 · subst e29
   simp [stmB,bareT,Tr.kind,Tr.text,Tr.num,Tr.kids] at h
   obtain ⟨⟨rfl,rfl⟩,h⟩:=h
   have:=List.eq_nil_of_length_eq_zero (rowB_length h)
   subst this; exact .nxt
 simp [stmB,Tr.kind,e20,e25,e21,e22,e23,e24,e26,e27,e28,e29] at h
/-- A statement begins at i. -/
def StmAt (l : List Tk) (i : Nat) : Prop:=ExpAt l i ∨ ∃ s,Lit l i s ∧ s ∈ [[123],[105,102],[102,111,114],[118,97,114],[114,101,116,117,114,110],[98,114,101,97,107],[99,111,110,116,105,110,117,101]]
section
variable {q : List UInt8 → Wd} {c : Wd → Int × List UInt8 × Int} {l : List Tk} {i j m n : Nat} {s x : Wd} {a b ws : List Wd} {t : Tr} {h : Bool}
theorem StmAt.no (h : StmAt l i) (hs : s ∈ [[125],[101,108,115,101]]) : isM l i s = false:=by
 have hf : ∀ s : Wd,s ∈ [[125],[101,108,115,101]] → s ∉ [[116,114,117,101],[102,97,108,115,101],[110,105,108],[40],[91],[102,117,110,99]] ∧ ∀ x ∈ [[123],[105,102],[102,111,114],[118,97,114],[114,101,116,117,114,110],[98,114,101,97,107],[99,111,110,116,105,110,117,101]],(x == s) = false:=by decide
 have hf:=hf s hs
 rcases h with h | ⟨x,hx,hm⟩
 · exact h.no hf.1
 · exact hx.no (hf.2 x hm)
theorem exps_first (C : Clw q c) {ks : List Tr} {r : List Wd} (hne : ks ≠ []) (hk : ∀ k ∈ ks,snd n .exp k = true) (hn : ∀ k ∈ ks,nmT n k) (hA : At c l i (commasT (tks q n .exp) ks ++ r)) : ExpAt l i ∧ 1 ≤ (commasT (tks q n .exp) ks).length:=by
 match ks,hne with
 | k :: ks,_ =>
  have:=exp_first C n k (hk k (by simp)) (hn k (by simp)) (l:=l)
  exact ⟨this.1 i hA.fst.fst,by simp only [commasT,List.length_append]; omega⟩
theorem stm_first (C : Clw q c) (hs : snd n .stm t = true) (hn : nmT n t) (hA : At c l i (tks q n .stm t)) : StmAt l i ∧ 1 ≤ (tks q n .stm t).length:=by
 match n with
 | 0 => simp [snd] at hs
 | n + 1 =>
  have hc:=stm_cases (show stmB (snd n) t = true from hs)
  have lt : ∀ {s : Wd} {ws : List Wd},s ∈ [[123],[105,102],[102,111,114],[118,97,114],[114,101,116,117,114,110],[98,114,101,97,107],[99,111,110,116,105,110,117,101]] → At c l i (s :: ws) → StmAt l i:=fun {s} {ws} hs hA => by
   have hf : ∀ s ∈ [[123],[105,102],[102,111,114],[118,97,114],[114,101,116,117,114,110],[98,114,101,97,107],[99,111,110,116,105,110,117,101]],s ∈ marksL ++ wordsL:=by decide
   exact .inr ⟨_,hA.lit C (hf s hs),hs⟩
  have hks:=hn.2
  clear hs hn
  cases hc with
  | blk ks hk => exact ⟨lt (s:=[123]) (by decide) hA,by simp [tks,stmT,Tr.kind,blkT,membersT]⟩
  | if2 x y hx hy => exact ⟨lt (s:=[105,102]) (by decide) hA,by simp [tks,stmT,Tr.kind,ifT]⟩
  | if3 x y z hx hy hz => exact ⟨lt (s:=[105,102]) (by decide) hA,by simp [tks,stmT,Tr.kind,ifT]⟩
  | var1 s x h0 hx => exact ⟨lt (s:=[118,97,114]) (by decide) hA,by simp [tks,stmT,Tr.kind]⟩
  | var2 s x y h0 hx hy => exact ⟨lt (s:=[118,97,114]) (by decide) hA,by simp [tks,stmT,Tr.kind]⟩
  | for1 y hy => exact ⟨lt (s:=[102,111,114]) (by decide) hA,by simp [tks,stmT,Tr.kind,forT]⟩
  | for2 x y hx hy => exact ⟨lt (s:=[102,111,114]) (by decide) hA,by simp [tks,stmT,Tr.kind,forT]⟩
  | ret ks hk => exact ⟨lt (s:=[114,101,116,117,114,110]) (by decide) hA,by simp [tks,stmT,Tr.kind]⟩
  | brk => exact ⟨lt (s:=[98,114,101,97,107]) (by decide) hA,by simp [tks,stmT,Tr.kind]⟩
  | nxt => exact ⟨lt (s:=[99,111,110,116,105,110,117,101]) (by decide) hA,by simp [tks,stmT,Tr.kind]⟩
  | call x h0 hx =>
   have hA' : At c l i (tks q n .exp x ++ [[59]]):=hA
   exact ⟨.inl ((exp_first C n x hx (hks x (by simp [Tr.kids]))).1 i hA'.fst),by simp [tks,stmT,Tr.kind]⟩
  | defn a b ha hb hp hk =>
   have hT : tks q (n + 1) .stm (.mk 22 [] a.length (a ++ b)) = commasT (tks q n .exp) a ++ ([[58,61]] ++ commasT (tks q n .exp) b ++ [[59]]):=by simp [tks,stmT,simT,asgT,Tr.kind,Tr.num,Tr.kids]
   rw [hT] at hA ⊢
   have:=exps_first C ha (fun k h => hk k (by simp [h])) (fun k h => hks k (by simp [Tr.kids,h])) hA
   exact ⟨.inl this.1,by simp; omega⟩
  | asgn a b ha hb hp hk =>
   have hT : tks q (n + 1) .stm (.mk 23 [] a.length (a ++ b)) = commasT (tks q n .exp) a ++ ([[61]] ++ commasT (tks q n .exp) b ++ [[59]]):=by simp [tks,stmT,simT,asgT,Tr.kind,Tr.num,Tr.kids]
   rw [hT] at hA ⊢
   have:=exps_first C ha (fun k h => hk k (by simp [h])) (fun k h => hks k (by simp [Tr.kids,h])) hA
   exact ⟨.inl this.1,by simp; omega⟩
theorem blk_back (C : Clw q c) (I : Bk q c l n) {ks : List Tr} (m i : Nat) (hk : ∀ k ∈ ks,snd n .stm k = true) (hn : ∀ k ∈ ks,nmT n k) (hA : At c l i (membersT (tks q n .stm) ks)) (hm : 3 * (membersT (tks q n .stm) ks).length ≤ m) :
    (ps l m).blk i = .ok (.mk 20 [] 0 ks) (i + (membersT (tks q n .stm) ks).length):=by
  obtain ⟨m,rfl⟩ : ∃ k,m = k + 1:=⟨m - 1,by simp [membersT] at hm; omega⟩
  show blkS l (ps l m) i = _
  have hf : ∀ k ∈ ks,(tks q n .stm k).length + 2 ≤ (membersT (tks q n .stm) ks).length:=fun k h => by
   have:=flat_len (f:=tks q n .stm) h
   simp only [membersT,List.length_append,List.length_cons,List.length_nil]; omega
  have hne : ∀ k ∈ ks,1 ≤ (tks q n .stm k).length:=fun k h => by
   match n,hk k h with
   | 0,h => simp [snd] at h
   | n + 1,h' =>
    have hc:=stm_cases (show stmB (snd n) k = true from h')
    clear h h' hf hA hk hn hm I
    cases hc <;> simp [tks,stmT,Tr.kind,blkT,membersT,ifT,forT]
  rw [blkS,members_back C (E:=fun j => isM l j [101,108,115,101] = false) (fun j h => h.no rfl)
    (fun k h j a e => I.stm k m j (hk k h) (hn k h) a e (by have:=hf k h; omega))
    (fun k h j a => ⟨(stm_first C (hk k h) (hn k h) a).1.no (by decide),(stm_first C (hk k h) (hn k h) a).1.no (by decide)⟩)
    hne hA]
  rfl
theorem blk_bk (C : Clw q c) (I : Bk q c l n) (t : Tr) (m i : Nat) (hs : snd (n + 1) .blk t = true) (hn : nmT (n + 1) t) (hA : At c l i (tks q (n + 1) .blk t)) (hm : 3 * (tks q (n + 1) .blk t).length ≤ m) : (ps l m).blk i = .ok t (i + (tks q (n + 1) .blk t).length):=by
 obtain ⟨ks,rfl,hk⟩:=blk_inv (show blkB (snd n) t = true from hs)
 exact blk_back C I m i hk hn.2 hA hm
theorem blk_first (C : Clw q c) {r : List Wd} (hs : snd n .blk t = true) (hA : At c l i (tks q n .blk t ++ r)) : Lit l i [123]:=by
 match n,hs with
 | 0,hs => simp [snd] at hs
 | n + 1,_ => exact At.lit C (show At c l _ ([123] :: _) from hA) (by decide)
theorem if_back (C : Clw q c) (I : Bk q c l n) (t : Tr) (m i : Nat) (hs : ifB (snd n) t = true) (hn : nmT (n + 1) t) (hA : At c l i (ifT (tks q n) t)) (hz : isM l (i + (ifT (tks q n) t).length) [101,108,115,101] = false) (hm : 3 * (ifT (tks q n) t).length ≤ m) :
    (ps l m).ifS (i + 1) = .ok t (i + (ifT (tks q n) t).length):=by
  obtain ⟨m,rfl⟩ : ∃ k,m = k + 1:=⟨m - 1,by simp [ifT] at hm; omega⟩
  show ifSS l (ps l m) (i + 1) = _
  have hks:=hn.2
  rcases if_inv hs with ⟨x,y,rfl,hx,hy⟩ | ⟨x,y,z,rfl,hx,hy,hz'⟩
  · have hT : ifT (tks q n) (.mk 25 [] 0 [x,y]) = [[105,102]] ++ (tks q n .exp x ++ tks q n .blk y):=by simp [ifT,Tr.kids,kidT]
    rw [hT] at hA hz hm ⊢
    have a1 : At c l (i + 1) (tks q n .exp x ++ tks q n .blk y):=hA.2
    have p1:=blk_first C hy (r:=[]) (by simpa using a1.snd)
    simp only [List.length_append,List.length_cons,List.length_nil] at hm hz ⊢
    rw [ifSS,cond_back C I hx (hks x (by simp [Tr.kids])) a1.fst p1 (by omega)]
    simp only [Res.bind]
    rw [I.blk y m _ hy (hks y (by simp [Tr.kids])) a1.snd (by omega)]
    simp only
    have e : i + 1 + (tks q n .exp x).length + (tks q n .blk y).length = i + (0 + 1 + ((tks q n .exp x).length + (tks q n .blk y).length)):=by omega
    rw [e,if_neg (by rw [hz]; simp)]
  · have hT : ifT (tks q n) (.mk 25 [] 0 [x,y,z]) = [[105,102]] ++ (tks q n .exp x ++ (tks q n .blk y ++ ([[101,108,115,101]] ++ tks q n .els z))):=by simp [ifT,Tr.kids,kidT]
    rw [hT] at hA hz hm ⊢
    have a1 : At c l (i + 1) (tks q n .exp x ++ (tks q n .blk y ++ ([[101,108,115,101]] ++ tks q n .els z))):=hA.2
    have p1:=blk_first C hy a1.snd
    have p2 : Lit l (i + 1 + (tks q n .exp x).length + (tks q n .blk y).length) [101,108,115,101]:=At.lit C a1.snd.snd (by decide)
    have a3 : At c l (i + 1 + (tks q n .exp x).length + (tks q n .blk y).length + 1) (tks q n .els z):=a1.snd.snd.2
    simp only [List.length_append,List.length_cons,List.length_nil] at hm hz ⊢
    rw [ifSS,cond_back C I hx (hks x (by simp [Tr.kids])) a1.fst p1 (by omega)]
    simp only [Res.bind]
    rw [I.blk y m _ hy (hks y (by simp [Tr.kids])) a1.snd.fst (by omega)]
    simp only
    rw [if_pos p2.yes]
    have e:=I.els z m _ hz' (hks z (by simp [Tr.kids])) a3 (by rw [← hz]; congr 1; omega) (by omega)
    by_cases hif : isM l (i + 1 + (tks q n .exp x).length + (tks q n .blk y).length + 1) [105,102] = true
    · rw [if_pos hif] at e ⊢
      rw [e]
      simp only
      congr 1; omega
    · rw [if_neg hif] at e ⊢
      rw [e]
      simp only
      congr 1; omega
theorem els_bk (C : Clw q c) (I : Bk q c l n) (t : Tr) (m i : Nat) (hs : snd (n + 1) .els t = true) (hn : nmT (n + 1) t) (hA : At c l i (tks q (n + 1) .els t)) (hz : isM l (i + (tks q (n + 1) .els t).length) [101,108,115,101] = false) (hm : 3 * (tks q (n + 1) .els t).length ≤ m) :
    (if isM l i [105,102] then (ps l m).ifS (i + 1) else (ps l m).blk i) = .ok t (i + (tks q (n + 1) .els t).length):=by
  have hs' : elsB (snd n) t = true:=hs
  simp only [elsB,Bool.or_eq_true] at hs'
  by_cases h20 : t.kind = 20
  · have hT : tks q (n + 1) .els t = blkT (tks q n) t:=by simp [tks,elsT,h20]
    have hb : blkB (snd n) t = true:=by
     rcases hs' with h | h
     · exact h
     · simp [ifB,h20] at h
    rw [hT] at hA hz hm ⊢
    obtain ⟨ks,rfl,hk⟩:=blk_inv hb
    have p0 : Lit l i [123]:=At.lit C (show At c l i ([123] :: _) from hA) (by decide)
    rw [if_neg (by rw [p0.no rfl]; simp)]
    exact blk_back C I m i hk hn.2 hA hm
  · have hT : tks q (n + 1) .els t = ifT (tks q n) t:=by simp [tks,elsT,h20]
    have hb : ifB (snd n) t = true:=by
     rcases hs' with h | h
     · simp [blkB,h20] at h
     · exact h
    rw [hT] at hA hz hm ⊢
    have p0 : Lit l i [105,102]:=At.lit C (show At c l i ([105,102] :: _) from hA) (by decide)
    rw [if_pos p0.yes]
    exact if_back C I t m i hb hn hA hz hm
end
end Go.Proofs.YtffnaknidofobaaGreatDoor
