/- Tokens that are cut off, tokens one behind the other. -/
import Derived.Test.YtffnaknidofobaaGreatDoorPmCJt
namespace Go.Proofs.YtffnaknidofobaaGreatDoor
/-- The tokens of a text, with the end's. -/
def withEnd (ts : List Tk) (n : Nat) : List Tk:=ts ++ [(4,[],0,n)]
theorem withEnd_len (ts : List Tk) (n : Nat) : (withEnd ts n).length = ts.length + 1:=by simp [withEnd]
theorem withEnd_last (ts : List Tk) (n : Nat) : tkA (withEnd ts n) ts.length = (4,[],0,n):=by simp [tkA,withEnd,List.getD_eq_getElem?_getD]
theorem withEnd_at (ts : List Tk) (n : Nat) {k : Nat} (h : k < ts.length) : tkA (withEnd ts n) k = ts[k]:=by simp [tkA,withEnd,List.getD_eq_getElem?_getD,List.getElem?_append_left h,h]
theorem ended (ts : List Tk) (n : Nat) : Ended (withEnd ts n):=⟨fun i hi hn => by
 rw [withEnd_len] at hi ⊢
 rcases Nat.lt_or_ge i ts.length with h | h
 · omega
 · exfalso; apply hn
   have e : i = ts.length:=by omega
   rw [e]; simp [kindA,textA,withEnd_last]⟩
theorem FB.top {l l' : List Tk} (h : 0 < l.length) (h' : 0 < l'.length) : FB l l' 0 (3 * l.length + 3) (3 * l'.length + 3) 0 0:=⟨rfl,h,h',by omega,by omega⟩
theorem treeR_l {l l' : List Tk} (E : Ended l) (E' : Ended l') (h : 0 < l.length) (h' : 0 < l'.length) : Lc l l' 0 0 (treeR l) (treeR l') :=
  Wk.bind (FB.top h h') ((cxs E E' 0 _ _).itDecl.upToR_k [] (FB.top h h')) (fun _ _ => Ge.ok _ _) fun _ _ _ _ K => Lc.ok rfl K.e
/-- Where the tokens end at the fault, the fault is at the end, or there is none. -/
theorem treeR_cut (ts : List Tk) (n n' j : Nat) (h : (treeR (withEnd ts n)).idx = j) (hj : j ≤ ts.length) : (treeR (withEnd (ts.take j) n')).idx = j:=by
 have E:=ended ts n
 have E':=ended (ts.take j) n'
 have h0 : 0 < (withEnd ts n).length:=by rw [withEnd_len]; omega
 have h0' : 0 < (withEnd (ts.take j) n').length:=by rw [withEnd_len]; omega
 have b : Bd _ (treeR (withEnd (ts.take j) n')):=progR_b E' (ps_b E' _) h0'
 have b1 : (treeR (withEnd (ts.take j) n')).idx < j + 1:=by
  have : (withEnd (ts.take j) n').length = j + 1:=by rw [withEnd_len]; simp [hj]
  rw [← this]; exact b
 rcases Nat.lt_or_ge (treeR (withEnd (ts.take j) n')).idx j with h1 | h1
 · exfalso
   have e:=treeR_l E' E h0' h0 fun k _ hk => by
    have hk' : k < j:=by omega
    have ek : tkA (withEnd ts n) (k + 0) = tkA (withEnd (ts.take j) n') k:=by
     rw [Nat.add_zero,withEnd_at ts n (by omega),withEnd_at (ts.take j) n' (by simp; omega)]; simp
    exact ⟨by simp only [kindA,ek],by simp only [textA,ek],by simp only [numA,ek]⟩
   have e2 : (treeR (withEnd ts n)).idx = (treeR (withEnd (ts.take j) n')).idx:=by
    rw [e]; cases treeR (withEnd (ts.take j) n') <;> rfl
   omega
 · omega
/-- What ends with a token that it takes hangs on the tokens ahead alone. -/
def Cl {α : Type} (l l' : List Tk) (i : Nat) (r r' : Res α) : Prop:=∀ a k,r = .ok a k → (∀ m,i ≤ m → m < k → TkE l l' m m) → r' = .ok a k
section
variable {l l' : List Tk} {i : Nat} {α β : Type} {r r' : Res α} {f f' : α → Nat → Res β}
theorem Cl.bind (h : Lc l l' 0 i r r') (g : Ge i r) (hf : ∀ a k,Gs k (f a k)) (hk : ∀ a k,i ≤ k → r = .ok a k → r' = .ok a k → Cl l l' k (f a k) (f' a k)) : Cl l l' i (r.bind f) (r'.bind f'):=by
 intro b k e hA
 cases r with
 | bad j => cases e
 | ok a k1 =>
  have e1 : f a k1 = .ok b k:=e
  have h1 : k1 < k:=by have:=hf a k1; rw [e1] at this; exact this
  have e2:=h fun m h2 h3 => by
   have h3' : m ≤ k1:=h3
   exact hA m h2 (by omega)
  rw [e2]
  exact hk a k1 g rfl e2 b k e1 fun m h2 h3 => hA m (Nat.le_trans g h2) h3
theorem Cl.last {g : α → β} (h : Cl l l' i r r') : Cl l l' i (r.bind fun a k => .ok (g a) k) (r'.bind fun a k => .ok (g a) k):=by
 intro b k e hA
 cases hr : r with
 | bad j => rw [hr] at e; cases e
 | ok a k1 =>
  rw [hr] at e
  have e1 : (.ok (g a) k1 : Res β) = .ok b k:=e
  injection e1 with e2 e3
  rw [h a k1 hr (by rw [e3]; exact hA),← e2,← e3]; rfl
theorem Cl.at {r r' : Res α} (g : Gs i r) (h : TkE l l' i i → Cl l l' i r r') : Cl l l' i r r':=fun a k e hA => by
 have hk : i < k:=by rw [e] at g; exact g
 exact h (hA i (Nat.le_refl _) hk) a k e hA
theorem Cl.le {j : Nat} (h : Cl l l' j r r') (hj : i ≤ j) : Cl l l' i r r':=fun a k e hA => h a k e fun m h1 h2 => hA m (Nat.le_trans hj h1) h2
theorem Cl.ite {a b a' b' : Res α} {c c' : Prop} [Decidable c] [Decidable c'] (hc : c' ↔ c) (h1 : c → c' → Cl l l' i a a') (h2 : ¬ c → ¬ c' → Cl l l' i b b') : Cl l l' i (if c then a else b) (if c' then a' else b'):=by
 by_cases h : c
 · rw [if_pos h,if_pos (hc.2 h)]; exact h1 h (hc.2 h)
 · rw [if_neg h,if_neg (fun h' => h (hc.1 h'))]; exact h2 h (fun h' => h (hc.1 h'))
theorem needR_c (s : List UInt8) : Cl l l' i (needR l s i) (needR l' s i):=Cl.at (needR_s l s i) fun t => Cl.ite (by simp only [t.me]) (fun _ _ => fun a k e _ => e) (fun _ _ => fun a k e _ => by cases e)
end
section
variable {l l' : List Tk} {n n' i : Nat} {p p' : Ps} (C : Cx l l' 0 n n' p p')
include C
theorem Cx.betweenR_c {α : Type} {inner inner' : Nat → Res α} (hg : ∀ k,Ge k (inner k)) (hk : ∀ k k',FB l l' 0 n n' k k' → Wk l l' 0 k (inner k) (inner' k')) {o s : List UInt8} (ho : o ≠ []) (F : FA l l' 0 n n' i i) : Cl l l' i (betweenR l o s inner i) (betweenR l' o s inner' i):=by
 refine Cl.bind (C.needR_k ho F).lc (needR_g l o i) (fun _ k => Gs.bind' (hg k) fun _ _ => Gs.bind (needR_s l s _) fun _ _ => Ge.ok _ _) fun _ k h0 h1 h2 => ?_
 have g : i < k:=by have:=needR_s l o i; rw [h1] at this; exact this
 have b1 : k < l.length:=by have:=needR_b C.E ho F.a; rw [h1] at this; exact this
 have b2 : k < l'.length:=by have:=needR_b C.E' ho F.b; rw [h2] at this; exact this
 have K:=F.on g rfl b1 b2
 exact Cl.bind (hk k k K).lc (hg k) (fun _ k => Gs.bind (needR_s l s k) fun _ _ => Ge.ok _ _) fun _ k _ _ _ => Cl.last (needR_c s)
theorem Cx.membersR_c {item item' : Nat → Res Tr} (I : It l l' 0 n n' item item') (F : FA l l' 0 n n' i i) : Cl l l' i (membersR l item i) (membersR l' item' i) :=
  C.betweenR_c (upToR_g l I.s _) (fun _ _ K => I.upToR_k _ K) (by decide) F
theorem Cx.blkS_c (F : FA l l' 0 n n' i i) : Cl l l' i (blkS l p i) (blkS l' p' i):=Cl.last (C.membersR_c C.itStmt F)
omit C in
/-- A step on, as in Pk.bind. -/
theorem Cx.step {α β : Type} {r r' : Res α} {f f' : α → Nat → Res β} (F : FA l l' 0 n n' i i) (h : Pk l l' 0 i r r') (hf : ∀ a k,Gs k (f a k)) (hk : ∀ a k,FB l l' 0 n n' k k → Cl l l' k (f a k) (f' a k)) : Cl l l' i (r.bind f) (r'.bind f') :=
  Cl.bind h.lc h.g.ge hf fun a k _ h1 h2 => by
   have b1:=h.b; have b2:=h.b'; have g:=h.g
   rw [h1] at b1 g; rw [h2] at b2
   exact hk a k (F.on g rfl b1 b2)
theorem Cx.typeDeclR_c (F : FA l l' 0 n n' i i) : Cl l l' i (typeDeclR l p i) (typeDeclR l' p' i):=by
 have hs : ∀ (s : List UInt8) k,Gs k (if isM l k [115,116,114,117,99,116] then (membersR l (fieldR l p) (k + 1)).bind fun ks i => .ok (Tr.mk 2 s 0 ks) i
   else (needR l [105,110,116,101,114,102,97,99,101] k).bind fun _ i => (membersR l (methodR l p) i).bind fun ks i => .ok (.mk 3 s 0 ks) i):=fun s k => Gs.ite (Gs.next (Ge.bind (membersR_s l (fieldR_s l C.G) _).ge fun _ _ => Ge.ok _ _)) (Gs.bind (needR_s l _ _) fun _ _ => Ge.bind (membersR_s l (methodR_s l C.G) _).ge fun _ _ => Ge.ok _ _)
 refine Cx.step F (C.nameR_k F) hs fun s k K => Cl.at (hs s k) fun t => Cl.ite (by simp only [t.me]) (fun g1 g2 => ?_) (fun _ _ => ?_)
 · exact Cl.le (Cl.last (C.membersR_c C.itField (C.m1 (by decide) K.fa g1 g2).fa)) (Nat.le_succ _)
 · exact Cx.step K.fa (C.needR_k (by decide) K.fa) (fun _ _ => Gs.bind (membersR_s l (methodR_s l C.G) _) fun _ _ => Ge.ok _ _) fun _ k K => Cl.last (C.membersR_c C.itMethod K.fa)
theorem Cx.declR_c (hb : ∀ k,FB l l' 0 n n' k k → Cl l l' k (p.blk k) (p'.blk k)) (F : FB l l' 0 n n' i i) : Cl l l' i (declR l p i) (declR l' p' i):=by
 refine Cl.at (declR_s l C.G i) fun t => Cl.ite (by simp only [t.me]) (fun g1 g2 => Cl.le (C.typeDeclR_c (C.m1 (by decide) F.fa g1 g2).fa) (Nat.le_succ _)) (fun _ _ => ?_)
 have s1 : ∀ (x : Tr → Tr) k,Gs k ((p.blk k).bind fun b i => .ok (x b) i):=fun _ k => Gs.bind (C.G.blk k) fun _ _ => Ge.ok _ _
 have s2 : ∀ (x : Tr → Tr → Tr) k,Gs k ((sigR l p k).bind fun g i => (p.blk i).bind fun b i => .ok (x g b) i):=fun _ k => Gs.bind (sigR_s l C.G k) fun _ _ => (Gs.bind (C.G.blk _) fun _ _ => Ge.ok _ _).ge
 have s3 : ∀ (x : List UInt8 → Tr → Tr → Tr) k,Gs k ((nameR l k).bind fun s i => (sigR l p i).bind fun g i => (p.blk i).bind fun b i => .ok (x s g b) i):=fun x k => Gs.bind (nameR_s l k) fun _ _ => (s2 _ _).ge
 have hs : ∀ k,Gs k (if isM l k [40] then (betweenR l [40] [41] (receiverR l) k).bind fun r i => (nameR l i).bind fun s i => (sigR l p i).bind fun g i => (p.blk i).bind fun b i => .ok (Tr.mk 5 s 0 [r,g,b]) i
   else (nameR l k).bind fun s i => (sigR l p i).bind fun g i => (p.blk i).bind fun b i => .ok (.mk 4 s 0 [g,b]) i):=fun k => Gs.ite (Gs.bind (betweenR_s l (fun k => (receiverR_s l k).ge) _ _ _) fun r _ => (s3 (fun s g b => .mk 5 s 0 [r,g,b]) _).ge) (s3 (fun s g b => .mk 4 s 0 [g,b]) _)
 have tail : ∀ (x : List UInt8 → Tr → Tr → Tr) k,FB l l' 0 n n' k k → Cl l l' k ((nameR l k).bind fun s i => (sigR l p i).bind fun g i => (p.blk i).bind fun b i => .ok (x s g b) i) ((nameR l' k).bind fun s i => (sigR l' p' i).bind fun g i => (p'.blk i).bind fun b i => .ok (x s g b) i):=fun x k K =>
  Cx.step K.fa (C.nameR_k K.fa) (fun _ _ => s2 _ _) fun _ k K => Cx.step K.fa (C.sigR_k K.fa) (fun _ _ => s1 _ _) fun _ k K => Cl.last (hb k K)
 refine Cx.step F.fa (C.needR_k (by decide) F.fa) (fun _ k => hs k) fun _ k K => Cl.at (hs k) fun t => Cl.ite (by simp only [t.me]) (fun _ _ => ?_) (fun _ _ => tail (fun s g b => .mk 4 s 0 [g,b]) k K)
 exact Cx.step K.fa ⟨C.betweenR_l (fun k => (receiverR_s l k).ge) (fun _ _ K => (C.receiverR_k K.fa).wk) (by decide) (by decide) K.fa,betweenR_s l (fun k => (receiverR_s l k).ge) _ _ _,betweenR_b C.E (fun _ hk => receiverR_b C.E hk) (by decide) (by decide) K.a,betweenR_b C.E' (fun _ hk => receiverR_b C.E' hk) (by decide) (by decide) K.b⟩ (fun r _ => s3 (fun s g b => .mk 5 s 0 [r,g,b]) _) fun r k K => tail (fun s g b => .mk 5 s 0 [r,g,b]) k K
end
theorem declR_cl {l l' : List Tk} (E : Ended l) (E' : Ended l') {n n' i : Nat} (F : FB l l' 0 (n + 1) (n' + 1) i i) : Cl l l' i (declR l (ps l (n + 1)) i) (declR l' (ps l' (n' + 1)) i) :=
  (cxs E E' 0 (n + 1) (n' + 1)).declR_c (fun _ K => (cxs E E' 0 n n').blkS_c ⟨rfl,K.a,K.b,by have:=K.c; omega,by have:=K.c'; omega⟩) F
theorem upToF_pre {l : List Tk} {m : List UInt8} {it : Nat → Res Tr} (a : List Tr) : ∀ f b i,upToF l m it f (a ++ b) i = (upToF l m it f b i).bind fun ks j => .ok (a ++ ks) j
  | 0,_,_ => rfl
  | f + 1,b,i => by
   unfold upToF
   split
   · rfl
   · cases it i with
     | bad j => rfl
     | ok t j =>
      simp only [Res.bind]
      rw [List.append_assoc,upToF_pre a f (b ++ [t]) j]; rfl
/-- The first declarations of tokens with others behind them. -/
theorem upToF_first {ts us : List Tk} {n n' : Nat} (hne : ∀ i,i < ts.length → isM (withEnd ts n) i [] = false) (hag : ∀ k,k < ts.length → TkE (withEnd ts n) (withEnd us n') k k) (hl : ts.length < (withEnd us n').length) {p p' : Nat} :
    3 * (withEnd ts n).length + 2 ≤ p → 3 * (withEnd us n').length + 2 ≤ p' →
    ∀ f1 f acc i ks j,i ≤ ts.length → (withEnd us n').length - i < f → upToF (withEnd ts n) [] (declR (withEnd ts n) (ps (withEnd ts n) (p + 1))) f1 acc i = .ok ks j →
    ∃ f',(withEnd us n').length - ts.length < f' ∧ upToF (withEnd us n') [] (declR (withEnd us n') (ps (withEnd us n') (p' + 1))) f acc i = upToF (withEnd us n') [] (declR (withEnd us n') (ps (withEnd us n') (p' + 1))) f' ks ts.length:=by
  intro hp hp' f1
  have L1:=withEnd_len ts n
  induction f1 with
  | zero => intro f acc i ks j _ _ h; cases h
  | succ f1 ih =>
   intro f acc i ks j hi hf h
   unfold upToF at h
   by_cases hm : isM (withEnd ts n) i [] = true
   · rw [if_pos hm] at h
     injection h with h1 _
     have e : i = ts.length:=by
      rcases Nat.lt_or_ge i ts.length with h2 | h2
      · rw [hne i h2] at hm; cases hm
      · omega
     subst e h1
     exact ⟨f,hf,rfl⟩
   · rw [if_neg hm] at h
     have hi2 : i < ts.length:=by
      rcases Nat.lt_or_ge i ts.length with h2 | h2
      · exact h2
      · exfalso; apply hm
        have e : i = ts.length:=by omega
        rw [e]; simp [isM,kindA,textA,withEnd_last]
     cases hd : declR (withEnd ts n) (ps (withEnd ts n) (p + 1)) i with
     | bad k => rw [hd] at h; cases h
     | ok t k =>
      rw [hd] at h
      have h' : upToF (withEnd ts n) [] (declR (withEnd ts n) (ps (withEnd ts n) (p + 1))) f1 (acc ++ [t]) k = .ok ks j:=h
      have E:=ended ts n
      have E':=ended us n'
      have g : i < k:=by have:=declR_s (withEnd ts n) (ps_s (withEnd ts n) (p + 1)) i; rw [hd] at this; exact this
      have b : k < (withEnd ts n).length:=by have:=declR_b E (ps_b E (p + 1)) (i:=i) (by omega); rw [hd] at this; exact this
      have c:=declR_cl E E' (n:=p) (n':=p') (i:=i) ⟨rfl,by omega,by omega,by omega,by omega⟩ t k hd (fun m _ h2 => hag m (by omega))
      have hm' : isM (withEnd us n') i [] = true → False:=by rw [(hag i hi2).me]; exact hm
      obtain ⟨f',rfl⟩ : ∃ f',f = f' + 1:=⟨f - 1,by omega⟩
      obtain ⟨f2,h1,h2⟩:=ih f' (acc ++ [t]) k ks j (by omega) (by omega) h'
      refine ⟨f2,h1,?_⟩
      rw [← h2]
      conv => lhs; unfold upToF
      rw [if_neg hm',c]; rfl
theorem treeR_ok {l : List Tk} {t : Tr} {j : Nat} (h : treeR l = .ok t j) : ∃ ks,t = .mk 1 [] 0 ks ∧ upToF l [] (declR l (ps l (3 * l.length + 3))) (l.length + 1) [] 0 = .ok ks j:=by
 unfold treeR progR upToR at h
 cases hu : upToF l [] (declR l (ps l (3 * l.length + 3))) (l.length + 1) [] 0 with
 | bad k => rw [hu] at h; cases h
 | ok ks k =>
  rw [hu] at h
  injection h with h1 h2
  exact ⟨ks,h1.symm,by rw [h2]⟩
/-- Two programs' tokens, one behind the other, are the declarations of both. -/
theorem treeR_join {ts us vs : List Tk} {n1 n2 n : Nat} (hne : ∀ i,i < ts.length → isM (withEnd ts n1) i [] = false) (hl : vs.length = us.length) (hv : ∀ (k : Nat) a b,us[k]? = some a → vs[k]? = some b → b.1 = a.1 ∧ b.2.1 = a.2.1 ∧ b.2.2.1 = a.2.2.1)
    {t1 t2 : Tr} {j1 j2 : Nat} (h1 : treeR (withEnd ts n1) = .ok t1 j1) (h2 : treeR (withEnd us n2) = .ok t2 j2) : ∃ j,treeR (withEnd (ts ++ vs) n) = .ok (.mk 1 [] 0 (t1.kids ++ t2.kids)) j:=by
  obtain ⟨ks1,rfl,e1⟩:=treeR_ok h1
  obtain ⟨ks2,rfl,e2⟩:=treeR_ok h2
  have L1:=withEnd_len ts n1
  have L2:=withEnd_len us n2
  have L:=withEnd_len (ts ++ vs) n
  rw [List.length_append] at L
  have E2:=ended us n2
  have E:=ended (ts ++ vs) n
  have hag : ∀ k,k < ts.length → TkE (withEnd ts n1) (withEnd (ts ++ vs) n) k k:=fun k hk => by
   have e : tkA (withEnd (ts ++ vs) n) k = tkA (withEnd ts n1) k:=by
    rw [withEnd_at ts n1 hk,withEnd_at (ts ++ vs) n (by simp; omega)]; simp [List.getElem_append_left hk]
   exact ⟨by simp only [kindA,e],by simp only [textA,e],by simp only [numA,e]⟩
  have hag2 : ∀ k,k < (withEnd us n2).length → TkE (withEnd us n2) (withEnd (ts ++ vs) n) k (k + ts.length):=fun k hk => by
   rcases Nat.lt_or_ge k us.length with h | h
   · have ea : us[k]? = some us[k]:=List.getElem?_eq_getElem h
     have eb : vs[k]? = some (vs[k]'(by omega)):=List.getElem?_eq_getElem (by omega)
     obtain ⟨q1,q2,q3⟩:=hv k _ _ ea eb
     have e : tkA (withEnd (ts ++ vs) n) (k + ts.length) = vs[k]'(by omega):=by
      rw [withEnd_at (ts ++ vs) n (by simp; omega)]; simp
     have e' : tkA (withEnd us n2) k = us[k]:=withEnd_at us n2 h
     exact ⟨by simp only [kindA,e,e',q1],by simp only [textA,e,e',q2],by simp only [numA,e,e',q3]⟩
   · have ek : k = us.length:=by omega
     subst ek
     have e : tkA (withEnd (ts ++ vs) n) (us.length + ts.length) = (4,[],0,n):=by
      have:=withEnd_last (ts ++ vs) n
      rw [List.length_append] at this
      rw [show us.length + ts.length = ts.length + vs.length by omega]; exact this
     exact ⟨by simp only [kindA,e,withEnd_last],by simp only [textA,e,withEnd_last],by simp only [numA,e,withEnd_last]⟩
  obtain ⟨f',hf',ef⟩:=upToF_first (us:=ts ++ vs) (n':=n) (p:=3 * (withEnd ts n1).length + 2) (p':=3 * (withEnd (ts ++ vs) n).length + 2) hne hag (by omega) (Nat.le_refl _) (Nat.le_refl _) ((withEnd ts n1).length + 1) ((withEnd (ts ++ vs) n).length + 1) [] 0 ks1 j1 (Nat.zero_le _) (by omega) e1
  have hb : j2 < (withEnd us n2).length:=by
   have:=upToR_b (l:=withEnd us n2) (item:=declR (withEnd us n2) (ps (withEnd us n2) (3 * (withEnd us n2).length + 3))) (fun _ hk => declR_b E2 (ps_b E2 _) hk) [] (i:=0) (by omega)
   unfold upToR at this
   rw [e2] at this; exact this
  have e3 : upToF (withEnd us n2) [] (declR (withEnd us n2) (ps (withEnd us n2) (3 * (withEnd us n2).length + 3))) ((withEnd us n2).length + 1) ks1 0 = .ok (ks1 ++ ks2) j2:=by
   have:=upToF_pre (l:=withEnd us n2) (m:=[]) (it:=declR (withEnd us n2) (ps (withEnd us n2) (3 * (withEnd us n2).length + 3))) ks1 ((withEnd us n2).length + 1) [] 0
   rw [List.append_nil,e2] at this; exact this
  have C:=cxs E2 E ts.length (3 * (withEnd us n2).length + 3) (3 * (withEnd (ts ++ vs) n).length + 3)
  have e4:=C.itDecl.upToF_l [] ((withEnd us n2).length + 1) f' ks1 0 ts.length ⟨by omega,by omega,by omega,by omega,by omega⟩ (by omega) hf'
  rw [e3] at e4
  have e5:=e4 fun k _ hk => hag2 k (by have hk' : k ≤ j2:=hk; omega)
  have e6 : upToF (withEnd (ts ++ vs) n) [] (declR (withEnd (ts ++ vs) n) (ps (withEnd (ts ++ vs) n) (3 * (withEnd (ts ++ vs) n).length + 3))) ((withEnd (ts ++ vs) n).length + 1) [] 0 = .ok (ks1 ++ ks2) (j2 + ts.length):=ef.trans e5
  refine ⟨j2 + ts.length,?_⟩
  unfold treeR progR upToR
  rw [e6]; rfl
end Go.Proofs.YtffnaknidofobaaGreatDoor
