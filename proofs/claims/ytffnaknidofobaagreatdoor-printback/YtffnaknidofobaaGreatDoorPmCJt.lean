/- What the parser's plain function comes to hangs on the tokens up to there alone, wherever they stand, however much fuel there is. -/
import Derived.Test.YtffnaknidofobaaGreatDoorParMJt
namespace Go.Proofs.YtffnaknidofobaaGreatDoor
def Res.sh {α : Type} (d : Nat) : Res α → Res α
  | .ok a i => .ok a (i + d)
  | .bad i => .bad (i + d)
/-- A token is another one, but for its place. -/
structure TkE (l l' : List Tk) (i i' : Nat) : Prop where
  k : kindA l' i' = kindA l i
  t : textA l' i' = textA l i
  n : numA l' i' = numA l i
def Ag (l l' : List Tk) (d i j : Nat) : Prop:=∀ k,i ≤ k → k ≤ j → TkE l l' k (k + d)
def Lc {α : Type} (l l' : List Tk) (d i : Nat) (r r' : Res α) : Prop:=Ag l l' d i r.idx → r' = r.sh d
section
variable {l l' : List Tk} {d i i' : Nat} {α β : Type}
theorem TkE.me (t : TkE l l' i i') (s : List UInt8) : isM l' i' s = isM l i s:=by simp only [isM,t.k,t.t]
theorem TkE.mk' (t : TkE l l' i i') : markA l' i' = markA l i:=by simp only [markA,t.k,t.t]
theorem TkE.ty (t : TkE l l' i i') : atTypeR l' i' = atTypeR l i:=by simp only [atTypeR,t.k,t.me]
theorem Lc.ok {a a' : α} {k k' : Nat} (h : a' = a) (e : k' = k + d) : Lc l l' d i (.ok a k) (.ok a' k'):=fun _ => by rw [h,e]; rfl
theorem Lc.bad {k k' : Nat} (e : k' = k + d) : Lc l l' d i (.bad k : Res α) (.bad k'):=fun _ => by rw [e]; rfl
theorem Lc.le {j : Nat} {r r' : Res α} (h : Lc l l' d j r r') (hj : i ≤ j) : Lc l l' d i r r':=fun hA => h fun k h1 h2 => hA k (Nat.le_trans hj h1) h2
theorem Lc.at {r r' : Res α} (g : Ge i r) (e : i' = i + d) (h : TkE l l' i i' → Lc l l' d i r r') : Lc l l' d i r r':=fun hA => h (e ▸ hA i (Nat.le_refl _) g) hA
theorem Lc.ite {a b a' b' : Res α} {c c' : Prop} [Decidable c] [Decidable c'] (hc : c' ↔ c) (h1 : c → c' → Lc l l' d i a a') (h2 : ¬ c → ¬ c' → Lc l l' d i b b') : Lc l l' d i (if c then a else b) (if c' then a' else b'):=by
 by_cases h : c
 · rw [if_pos h,if_pos (hc.2 h)]; exact h1 h (hc.2 h)
 · rw [if_neg h,if_neg (fun h' => h (hc.1 h'))]; exact h2 h (fun h' => h (hc.1 h'))
theorem Lc.bind {r r' : Res α} {f f' : α → Nat → Res β} (h : Lc l l' d i r r') (g : Ge i r) (hf : ∀ a k,Ge k (f a k)) (hk : ∀ a k k',k' = k + d → i ≤ k → r = .ok a k → r' = .ok a k' → Lc l l' d k (f a k) (f' a k')) : Lc l l' d i (r.bind f) (r'.bind f'):=by
 intro hA
 cases r with
 | bad j =>
  have e:=h hA
  rw [e]; rfl
 | ok a k =>
  have hg:=hf a k
  have e:=h fun m h1 h2 => hA m h1 (Nat.le_trans h2 hg)
  rw [e]
  exact hk a k (k + d) rfl g rfl e fun m h1 h2 => hA m (Nat.le_trans g h1) h2
end
/-- Where the parser may go on with what it has. -/
structure FA (l l' : List Tk) (d n n' i i' : Nat) : Prop where
  e : i' = i + d
  a : i < l.length
  b : i' < l'.length
  c : 3 * (l.length - i) ≤ n + 1
  c' : 3 * (l'.length - i') ≤ n' + 1
structure FB (l l' : List Tk) (d n n' i i' : Nat) : Prop where
  e : i' = i + d
  a : i < l.length
  b : i' < l'.length
  c : 3 * (l.length - i) + 2 ≤ n
  c' : 3 * (l'.length - i') + 2 ≤ n'
theorem FB.fa {l l' : List Tk} {d n n' i i' : Nat} (F : FB l l' d n n' i i') : FA l l' d n n' i i':=⟨F.e,F.a,F.b,by have:=F.c; omega,by have:=F.c'; omega⟩
theorem FA.on {l l' : List Tk} {d n n' i i' k k' : Nat} (F : FA l l' d n n' i i') (h : i < k) (e : k' = k + d) (h1 : k < l.length) (h2 : k' < l'.length) : FB l l' d n n' k k':=⟨e,h1,h2,by have:=F.c; omega,by have:=F.c'; have:=F.e; omega⟩
theorem FB.on {l l' : List Tk} {d n n' i i' k k' : Nat} (F : FB l l' d n n' i i') (h : i ≤ k) (e : k' = k + d) (h1 : k < l.length) (h2 : k' < l'.length) : FB l l' d n n' k k':=⟨e,h1,h2,by have:=F.c; omega,by have:=F.c'; have:=F.e; omega⟩
/-- All that is known of two runs of a part. -/
structure Pk {α : Type} (l l' : List Tk) (d i : Nat) (r r' : Res α) : Prop where
  lc : Lc l l' d i r r'
  g : Gs i r
  b : Bd l.length r
  b' : Bd l'.length r'
structure Wk {α : Type} (l l' : List Tk) (d i : Nat) (r r' : Res α) : Prop where
  lc : Lc l l' d i r r'
  g : Ge i r
  b : Bd l.length r
  b' : Bd l'.length r'
section
variable {l l' : List Tk} {d n n' i i' : Nat} {α β : Type} {r r' : Res α} {f f' : α → Nat → Res β}
theorem Pk.wk (h : Pk l l' d i r r') : Wk l l' d i r r':=⟨h.lc,h.g.ge,h.b,h.b'⟩
theorem Pk.bind (F : FA l l' d n n' i i') (h : Pk l l' d i r r') (hf : ∀ a k,Ge k (f a k)) (hk : ∀ a k k',i < k → FB l l' d n n' k k' → Lc l l' d k (f a k) (f' a k')) : Lc l l' d i (r.bind f) (r'.bind f') :=
  Lc.bind h.lc h.g.ge hf fun a k k' e _ h1 h2 => by
   have b1:=h.b; have b2:=h.b'; have g:=h.g
   rw [h1] at b1 g; rw [h2] at b2
   exact hk a k k' g (F.on g e b1 b2)
theorem Wk.bind (F : FB l l' d n n' i i') (h : Wk l l' d i r r') (hf : ∀ a k,Ge k (f a k)) (hk : ∀ a k k',i ≤ k → FB l l' d n n' k k' → Lc l l' d k (f a k) (f' a k')) : Lc l l' d i (r.bind f) (r'.bind f') :=
  Lc.bind h.lc h.g hf fun a k k' e h0 h1 h2 => by
   have b1:=h.b; have b2:=h.b'
   rw [h1] at b1; rw [h2] at b2
   exact hk a k k' h0 (F.on h0 e b1 b2)
end
/-- Two runs' parts that come to themselves again. -/
structure Cx (l l' : List Tk) (d n n' : Nat) (p p' : Ps) : Prop where
  E : Ended l
  E' : Ended l'
  G : PsG p
  B : PsB l.length p
  B' : PsB l'.length p'
  typ : ∀ i i',i' = i + d → i < l.length → i' < l'.length → 3 * (l.length - i) ≤ n → 3 * (l'.length - i') ≤ n' → Lc l l' d i (p.typ i) (p'.typ i')
  bin : ∀ h m i i',1 ≤ m → i' = i + d → i < l.length → i' < l'.length → 3 * (l.length - i) + 1 ≤ n → 3 * (l'.length - i') + 1 ≤ n' → Lc l l' d i (p.bin h m i) (p'.bin h m i')
  una : ∀ h i i',i' = i + d → i < l.length → i' < l'.length → 3 * (l.length - i) ≤ n → 3 * (l'.length - i') ≤ n' → Lc l l' d i (p.una h i) (p'.una h i')
  blk : ∀ i i',i' = i + d → i < l.length → i' < l'.length → 3 * (l.length - i) ≤ n → 3 * (l'.length - i') ≤ n' → Lc l l' d i (p.blk i) (p'.blk i')
  ifS : ∀ i i',i' = i + d → i < l.length → i' < l'.length → 3 * (l.length - i) + 2 ≤ n → 3 * (l'.length - i') + 2 ≤ n' → Lc l l' d i (p.ifS i) (p'.ifS i')
section
variable {l l' : List Tk} {d n n' i i' : Nat} {p p' : Ps} (C : Cx l l' d n n' p p')
include C
theorem Cx.typk (F : FB l l' d n n' i i') : Pk l l' d i (p.typ i) (p'.typ i'):=⟨C.typ _ _ F.e F.a F.b (by have:=F.c; omega) (by have:=F.c'; omega),C.G.typ i,C.B.typ i F.a,C.B'.typ i' F.b⟩
theorem Cx.bink (h : Bool) {m : Int} (hm : 1 ≤ m) (F : FB l l' d n n' i i') : Pk l l' d i (p.bin h m i) (p'.bin h m i'):=⟨C.bin _ _ _ _ hm F.e F.a F.b (by have:=F.c; omega) (by have:=F.c'; omega),C.G.bin h m i,C.B.bin h m i hm F.a,C.B'.bin h m i' hm F.b⟩
theorem Cx.unak (h : Bool) (F : FB l l' d n n' i i') : Pk l l' d i (p.una h i) (p'.una h i'):=⟨C.una _ _ _ F.e F.a F.b (by have:=F.c; omega) (by have:=F.c'; omega),C.G.una h i,C.B.una h i F.a,C.B'.una h i' F.b⟩
theorem Cx.blkk (F : FB l l' d n n' i i') : Pk l l' d i (p.blk i) (p'.blk i'):=⟨C.blk _ _ F.e F.a F.b (by have:=F.c; omega) (by have:=F.c'; omega),C.G.blk i,C.B.blk i F.a,C.B'.blk i' F.b⟩
theorem Cx.ifk (F : FB l l' d n n' i i') : Pk l l' d i (p.ifS i) (p'.ifS i'):=⟨C.ifS _ _ F.e F.a F.b F.c F.c',C.G.ifS i,C.B.ifS i F.a,C.B'.ifS i' F.b⟩
theorem Cx.m1 {s : List UInt8} (hs : s ≠ []) (F : FA l l' d n n' i i') (h : isM l i s = true) (h' : isM l' i' s = true) : FB l l' d n n' (i + 1) (i' + 1):=F.on (Nat.lt_succ_self _) (by have:=F.e; omega) (C.E.m hs F.a h) (C.E'.m hs F.b h')
omit C in
theorem Cx.nameR_l (e : i' = i + d) : Lc l l' d i (nameR l i) (nameR l' i'):=Lc.at (nameR_g l i) e fun t => Lc.ite (by simp only [t.k]) (fun _ _ => Lc.ok t.t (by omega)) (fun _ _ => Lc.bad e)
omit C in
theorem Cx.needR_l (s : List UInt8) (e : i' = i + d) : Lc l l' d i (needR l s i) (needR l' s i'):=Lc.at (needR_g l s i) e fun t => Lc.ite (by simp only [t.me]) (fun _ _ => Lc.ok rfl (by omega)) (fun _ _ => Lc.bad e)
theorem Cx.nameR_k (F : FA l l' d n n' i i') : Pk l l' d i (nameR l i) (nameR l' i'):=⟨Cx.nameR_l F.e,nameR_s l i,nameR_b C.E F.a,nameR_b C.E' F.b⟩
theorem Cx.needR_k {s : List UInt8} (hs : s ≠ []) (F : FA l l' d n n' i i') : Pk l l' d i (needR l s i) (needR l' s i'):=⟨Cx.needR_l s F.e,needR_s l s i,needR_b C.E hs F.a,needR_b C.E' hs F.b⟩
end
/-- A part that is taken along. -/
structure It (l l' : List Tk) (d n n' : Nat) (item item' : Nat → Res Tr) : Prop where
  k : ∀ i i',FB l l' d n n' i i' → Pk l l' d i (item i) (item' i')
  s : ∀ k,Gs k (item k)
  b : ∀ k,k < l.length → Bd l.length (item k)
  b' : ∀ k,k < l'.length → Bd l'.length (item' k)
section
variable {l l' : List Tk} {d n n' : Nat} {p p' : Ps} (C : Cx l l' d n n' p p') {item item' : Nat → Res Tr} (I : It l l' d n n' item item')
include C I
omit C in
theorem It.upToF_l (mark : List UInt8) : ∀ f f' acc i i',FB l l' d n n' i i' → l.length - i < f → l'.length - i' < f' → Lc l l' d i (upToF l mark item f acc i) (upToF l' mark item' f' acc i')
  | 0,_,_,_,_,_,h,_ => by omega
  | _ + 1,0,_,_,_,_,_,h => by omega
  | f + 1,f' + 1,acc,i,i',F,h,h' => Lc.at (upToF_g l I.s mark _ _ _) F.e fun t => by
   unfold upToF
   exact Lc.ite (by simp only [t.me]) (fun _ _ => Lc.ok rfl F.e) (fun _ _ => Pk.bind F.fa (I.k i i' F) (fun _ _ => upToF_g l I.s mark _ _ _) fun a k k' hk K => It.upToF_l mark f f' _ k k' K (by have:=F.a; omega) (by have:=F.b; have:=F.e; have:=K.e; omega))
theorem Cx.commasF_l : ∀ f f' acc i i',FB l l' d n n' i i' → l.length - i < f → l'.length - i' < f' → Lc l l' d i (commasF l item f acc i) (commasF l' item' f' acc i')
  | 0,_,_,_,_,_,h,_ => by omega
  | _ + 1,0,_,_,_,_,_,h => by omega
  | f + 1,f' + 1,acc,i,i',F,h,h' => Lc.at (commasF_g l I.s _ _ _) F.e fun t => by
   unfold commasF
   exact Lc.ite (by simp only [t.me]) (fun h1 h2 => Lc.le (Pk.bind (C.m1 (by decide) F.fa h1 h2).fa (I.k _ _ (C.m1 (by decide) F.fa h1 h2)) (fun _ _ => commasF_g l I.s _ _ _) fun a k k' hk K => Cx.commasF_l f f' _ k k' K (by have:=F.a; omega) (by have:=F.b; have:=F.e; have:=K.e; omega)) (Nat.le_succ _)) (fun _ _ => Lc.ok rfl F.e)
variable {i i' : Nat}
omit C in
theorem It.upToR_k (mark : List UInt8) (F : FB l l' d n n' i i') : Wk l l' d i (upToR l mark item i) (upToR l' mark item' i'):=⟨I.upToF_l mark _ _ _ _ _ F (by omega) (by omega),upToR_g l I.s mark i,upToR_b I.b mark F.a,upToR_b I.b' mark F.b⟩
theorem Cx.commasR_k (F : FB l l' d n n' i i') : Pk l l' d i (commasR l item i) (commasR l' item' i') :=
  ⟨Pk.bind F.fa (I.k i i' F) (fun _ _ => commasF_g l I.s _ _ _) fun _ k k' _ K => C.commasF_l I _ _ _ k k' K (by omega) (by omega),commasR_s l I.s i,commasR_b C.E I.b F.a,commasR_b C.E' I.b' F.b⟩
theorem Cx.innerR_k (s : List UInt8) (F : FB l l' d n n' i i') : Wk l l' d i (innerR l s item i) (innerR l' s item' i') :=
  ⟨Lc.at (innerR_g l I.s s i) F.e fun t => Lc.ite (by simp only [t.me]) (fun _ _ => Lc.ok rfl F.e) (fun _ _ => (C.commasR_k I F).lc),innerR_g l I.s s i,innerR_b C.E I.b s F.a,innerR_b C.E' I.b' s F.b⟩
omit I in
theorem Cx.betweenR_l {α : Type} {inner inner' : Nat → Res α} (hg : ∀ k,Ge k (inner k)) (hk : ∀ k k',FB l l' d n n' k k' → Wk l l' d k (inner k) (inner' k')) {o s : List UInt8} (ho : o ≠ []) (hs : s ≠ []) (F : FA l l' d n n' i i') : Lc l l' d i (betweenR l o s inner i) (betweenR l' o s inner' i') :=
  Pk.bind F (C.needR_k ho F) (fun _ _ => Ge.bind (hg _) fun _ _ => Ge.bind (needR_g l s _) fun _ _ => Ge.ok _ _) fun _ k k' _ K => Wk.bind K (hk k k' K) (fun _ _ => Ge.bind (needR_g l s _) fun _ _ => Ge.ok _ _) fun _ _ _ _ K => Pk.bind K.fa (C.needR_k hs K.fa) (fun _ _ => Ge.ok _ _) fun _ _ _ _ K => Lc.ok rfl K.e
theorem Cx.listedR_k {o s : List UInt8} (ho : o ≠ []) (hs : s ≠ []) (F : FA l l' d n n' i i') : Pk l l' d i (listedR l o s item i) (listedR l' o s item' i') :=
  ⟨C.betweenR_l (innerR_g l I.s s) (fun _ _ K => C.innerR_k I s K) ho hs F,listedR_s l I.s o s i,listedR_b C.E I.b ho hs F.a,listedR_b C.E' I.b' ho hs F.b⟩
theorem Cx.membersR_k (F : FA l l' d n n' i i') : Pk l l' d i (membersR l item i) (membersR l' item' i') :=
  ⟨C.betweenR_l (upToR_g l I.s _) (fun _ _ K => I.upToR_k _ K) (by decide) (by decide) F,membersR_s l I.s i,membersR_b C.E I.b F.a,membersR_b C.E' I.b' F.b⟩
end
section
variable {l l' : List Tk} {d n n' i i' : Nat} {p p' : Ps} (C : Cx l l' d n n' p p')
include C
theorem Cx.itTyp : It l l' d n n' p.typ p'.typ:=⟨fun _ _ F => C.typk F,C.G.typ,C.B.typ,C.B'.typ⟩
theorem Cx.typesR_k (F : FB l l' d n n' i i') : Pk l l' d i (typesR l p i) (typesR l' p' i'):=⟨(C.commasR_k C.itTyp F).lc,typesR_s l C.G i,typesR_b C.E C.B F.a,typesR_b C.E' C.B' F.b⟩
theorem Cx.resultsR_k (F : FB l l' d n n' i i') : Wk l l' d i (resultsR l p i) (resultsR l' p' i'):=⟨Lc.at (resultsR_g l C.G i) F.e fun t => Lc.ite (by simp only [t.me]) (fun _ _ => C.betweenR_l (fun k => (typesR_s l C.G k).ge) (fun _ _ K => (C.typesR_k K).wk) (by decide) (by decide) F.fa) (fun _ _ => Lc.ite (by simp only [t.ty]) (fun _ _ => Pk.bind F.fa (C.typk F) (fun _ _ => Ge.ok _ _) fun _ _ _ _ K => Lc.ok rfl K.e) (fun _ _ => Lc.ok rfl F.e)),resultsR_g l C.G i,resultsR_b C.E C.B F.a,resultsR_b C.E' C.B' F.b⟩
theorem Cx.functionR_l {param param' : Nat → Res Tr} (I : It l l' d n n' param param') (kind : Int) (F : FA l l' d n n' i i') : Lc l l' d i (functionR l p kind param i) (functionR l' p' kind param' i'):=Pk.bind F (C.listedR_k I (by decide) (by decide) F) (fun _ _ => Ge.bind (resultsR_g l C.G _) fun _ _ => Ge.ok _ _) fun _ k k' _ K => Wk.bind K (C.resultsR_k K) (fun _ _ => Ge.ok _ _) fun _ _ _ _ K => Lc.ok rfl K.e
theorem Cx.typS_k (F : FA l l' d n n' i i') : Pk l l' d i (typS l p i) (typS l' p' i'):=⟨Lc.at ((typS_s l C.G i).ge) F.e fun t => Lc.ite (by simp only [t.k]) (fun _ _ => Lc.ok (by rw [t.t]) (by have:=F.e; omega)) (fun _ _ => Lc.ite (by simp only [t.me]) (fun h1 h2 => Lc.le (Pk.bind (C.m1 (by decide) F h1 h2).fa (C.typk (C.m1 (by decide) F h1 h2)) (fun _ _ => Ge.ok _ _) fun _ _ _ _ K => Lc.ok rfl K.e) (Nat.le_succ _)) (fun _ _ => Lc.ite (by simp only [t.me]) (fun h1 h2 => Lc.le (Pk.bind (C.m1 (by decide) F h1 h2).fa (C.needR_k (by decide) (C.m1 (by decide) F h1 h2).fa) (fun _ _ => Ge.bind (C.G.typ _).ge fun _ _ => Ge.ok _ _) fun _ _ _ _ K => Pk.bind K.fa (C.typk K) (fun _ _ => Ge.ok _ _) fun _ _ _ _ K => Lc.ok rfl K.e) (Nat.le_succ _)) (fun _ _ => Pk.bind F (C.needR_k (by decide) F) (fun _ _ => (functionR_s l C.G C.G.typ _ _).ge) fun _ _ _ _ K => C.functionR_l C.itTyp _ K.fa))),typS_s l C.G i,typS_b C.E C.B F.a,typS_b C.E' C.B' F.b⟩
theorem Cx.paramR_k (F : FA l l' d n n' i i') : Pk l l' d i (paramR l p i) (paramR l' p' i'):=⟨Pk.bind F (C.nameR_k F) (fun _ _ => Ge.bind (C.G.typ _).ge fun _ _ => Ge.ok _ _) fun _ _ _ _ K => Pk.bind K.fa (C.typk K) (fun _ _ => Ge.ok _ _) fun _ _ _ _ K => Lc.ok rfl K.e,paramR_s l C.G i,paramR_b C.E C.B F.a,paramR_b C.E' C.B' F.b⟩
theorem Cx.itParam : It l l' d n n' (paramR l p) (paramR l' p'):=⟨fun _ _ F => C.paramR_k F.fa,paramR_s l C.G,fun _ h => paramR_b C.E C.B h,fun _ h => paramR_b C.E' C.B' h⟩
theorem Cx.sigR_k (F : FA l l' d n n' i i') : Pk l l' d i (sigR l p i) (sigR l' p' i'):=⟨C.functionR_l C.itParam _ F,sigR_s l C.G i,sigR_b C.E C.B F.a,sigR_b C.E' C.B' F.b⟩
theorem Cx.exprR_k (h : Bool) (F : FB l l' d n n' i i') : Pk l l' d i (exprR p h i) (exprR p' h i'):=C.bink h (by decide) F
theorem Cx.itExpr (h : Bool) : It l l' d n n' (exprR p h) (exprR p' h):=⟨fun _ _ F => C.exprR_k h F,exprR_s C.G h,fun _ hk => exprR_b C.B h hk,fun _ hk => exprR_b C.B' h hk⟩
theorem Cx.exprsR_k (h : Bool) (F : FB l l' d n n' i i') : Pk l l' d i (exprsR l p h i) (exprsR l' p' h i'):=⟨(C.commasR_k (C.itExpr h) F).lc,exprsR_s l C.G h i,exprsR_b C.E C.B h F.a,exprsR_b C.E' C.B' h F.b⟩
theorem Cx.elementsR_k (F : FA l l' d n n' i i') : Pk l l' d i (elementsR l p i) (elementsR l' p' i'):=⟨(C.listedR_k (C.itExpr false) (by decide) (by decide) F).lc,elementsR_s l C.G i,elementsR_b C.E C.B F.a,elementsR_b C.E' C.B' F.b⟩
theorem Cx.namedR_k (h : Bool) (F : FA l l' d n n' i i') : Pk l l' d i (namedR l p h i) (namedR l' p' h i'):=⟨Pk.bind F (C.nameR_k F) (fun _ _ => Ge.ite (Ge.bind (elementsR_s l C.G _).ge fun _ _ => Ge.ok _ _) (Ge.ok _ _)) fun _ k k' _ K => Lc.at (Ge.ite (Ge.bind (elementsR_s l C.G _).ge fun _ _ => Ge.ok _ _) (Ge.ok _ _)) K.e fun t => Lc.ite (by simp only [t.me]) (fun _ _ => Pk.bind K.fa (C.elementsR_k K.fa) (fun _ _ => Ge.ok _ _) fun _ _ _ _ K => Lc.ok rfl K.e) (fun _ _ => Lc.ok rfl K.e),namedR_s l C.G h i,namedR_b C.E C.B h F.a,namedR_b C.E' C.B' h F.b⟩
theorem Cx.cutR_k (num : Int) (ks : List Tr) (F : FA l l' d n n' i i') : Pk l l' d i (cutR l p num ks i) (cutR l' p' num ks i'):=⟨Pk.bind F (C.needR_k (by decide) F) (fun _ _ => Ge.ite (Ge.ok _ _) (Ge.bind (exprR_s C.G _ _).ge fun _ _ => Ge.ok _ _)) fun _ k k' _ K => Lc.at (Ge.ite (Ge.ok _ _) (Ge.bind (exprR_s C.G _ _).ge fun _ _ => Ge.ok _ _)) K.e fun t => Lc.ite (by simp only [t.me]) (fun _ _ => Lc.ok rfl K.e) (fun _ _ => Pk.bind K.fa (C.exprR_k _ K) (fun _ _ => Ge.ok _ _) fun _ _ _ _ K => Lc.ok rfl K.e),cutR_s l C.G num ks i,cutR_b C.E C.B num ks F.a,cutR_b C.E' C.B' num ks F.b⟩
theorem Cx.partR_k (t0 : Tr) (F : FB l l' d n n' i i') : Pk l l' d i (partR l p t0 i) (partR l' p' t0 i'):=⟨Lc.at ((partR_s l C.G t0 i).ge) F.e fun t => Lc.ite (by simp only [t.me]) (fun _ _ => (C.cutR_k _ _ F.fa).lc) (fun _ _ => Pk.bind F.fa (C.exprR_k _ F) (fun _ _ => Ge.ite (cutR_s l C.G _ _ _).ge (Ge.ok _ _)) fun _ k k' _ K => Lc.at (Ge.ite (cutR_s l C.G _ _ _).ge (Ge.ok _ _)) K.e fun t => Lc.ite (by simp only [t.me]) (fun _ _ => (C.cutR_k _ _ K.fa).lc) (fun _ _ => Lc.ok rfl K.e)),partR_s l C.G t0 i,partR_b C.E C.B t0 F.a,partR_b C.E' C.B' t0 F.b⟩
theorem Cx.primR_k (h : Bool) (F : FA l l' d n n' i i') : Pk l l' d i (primR l p h i) (primR l' p' h i'):=⟨Lc.at ((primR_s l C.G h i).ge) F.e fun t => Lc.ite (by simp only [t.k]) (fun _ _ => Lc.ok (by rw [t.n]) (by have:=F.e; omega)) (fun _ _ => Lc.ite (by simp only [t.k]) (fun _ _ => Lc.ok (by rw [t.t]) (by have:=F.e; omega)) (fun _ _ => Lc.ite (by simp only [t.k]) (fun _ _ => (C.namedR_k h F).lc) (fun _ _ => Lc.ite (by simp only [t.me]) (fun _ _ => Lc.ok rfl (by have:=F.e; omega)) (fun _ _ => Lc.ite (by simp only [t.me]) (fun _ _ => Lc.ok rfl (by have:=F.e; omega)) (fun _ _ => Lc.ite (by simp only [t.me]) (fun _ _ => Lc.ok rfl (by have:=F.e; omega)) (fun _ _ => Lc.ite (by simp only [t.me]) (fun _ _ => C.betweenR_l (fun k => (exprR_s C.G _ k).ge) (fun _ _ K => (C.exprR_k _ K).wk) (by decide) (by decide) F) (fun _ _ => Lc.ite (by simp only [t.me]) (fun h1 h2 => Lc.le (Pk.bind (C.m1 (by decide) F h1 h2).fa (C.needR_k (by decide) (C.m1 (by decide) F h1 h2).fa) (fun _ _ => Ge.bind (C.G.typ _).ge fun _ _ => Ge.bind (elementsR_s l C.G _).ge fun _ _ => Ge.ok _ _) fun _ _ _ _ K => Pk.bind K.fa (C.typk K) (fun _ _ => Ge.bind (elementsR_s l C.G _).ge fun _ _ => Ge.ok _ _) fun _ _ _ _ K => Pk.bind K.fa (C.elementsR_k K.fa) (fun _ _ => Ge.ok _ _) fun _ _ _ _ K => Lc.ok rfl K.e) (Nat.le_succ _)) (fun _ _ => Pk.bind F (C.needR_k (by decide) F) (fun _ _ => Ge.bind (sigR_s l C.G _).ge fun _ _ => Ge.bind (C.G.blk _).ge fun _ _ => Ge.ok _ _) fun _ _ _ _ K => Pk.bind K.fa (C.sigR_k K.fa) (fun _ _ => Ge.bind (C.G.blk _).ge fun _ _ => Ge.ok _ _) fun _ _ _ _ K => Pk.bind K.fa (C.blkk K) (fun _ _ => Ge.ok _ _) fun _ _ _ _ K => Lc.ok rfl K.e)))))))),primR_s l C.G h i,primR_b C.E C.B h F.a,primR_b C.E' C.B' h F.b⟩
omit i i' in
theorem Cx.postF_l : ∀ f f' t0 i i',FB l l' d n n' i i' → l.length - i < f → l'.length - i' < f' → Lc l l' d i (postF l p f t0 i) (postF l' p' f' t0 i')
  | 0,_,_,_,_,_,h,_ => by omega
  | _ + 1,0,_,_,_,_,_,h => by omega
  | f + 1,f' + 1,t0,i,i',F,h,h' => Lc.at (postF_g l C.G _ _ _) F.e fun t => by
   unfold postF
   exact Lc.ite (by simp only [t.me]) (fun h1 h2 => Lc.le (Pk.bind (C.m1 (by decide) F.fa h1 h2).fa (C.nameR_k (C.m1 (by decide) F.fa h1 h2).fa) (fun _ _ => postF_g l C.G _ _ _) fun _ k k' _ K => Cx.postF_l f f' _ k k' K (by have:=F.a; omega) (by have:=F.b; have:=F.e; have:=K.e; omega)) (Nat.le_succ _))
     (fun _ _ => Lc.ite (by simp only [t.me]) (fun _ _ => Pk.bind F.fa ⟨C.betweenR_l (fun k => (partR_s l C.G _ k).ge) (fun _ _ K => (C.partR_k _ K).wk) (by decide) (by decide) F.fa,betweenR_s l (fun k => (partR_s l C.G _ k).ge) _ _ _,betweenR_b C.E (fun _ hk => partR_b C.E C.B _ hk) (by decide) (by decide) F.a,betweenR_b C.E' (fun _ hk => partR_b C.E' C.B' _ hk) (by decide) (by decide) F.b⟩ (fun _ _ => postF_g l C.G _ _ _) fun _ k k' _ K => Cx.postF_l f f' _ k k' K (by have:=F.a; omega) (by have:=F.b; have:=F.e; have:=K.e; omega))
     (fun _ _ => Lc.ite (by simp only [t.me]) (fun _ _ => Pk.bind F.fa (C.listedR_k (C.itExpr false) (by decide) (by decide) F.fa) (fun _ _ => postF_g l C.G _ _ _) fun _ k k' _ K => Cx.postF_l f f' _ k k' K (by have:=F.a; omega) (by have:=F.b; have:=F.e; have:=K.e; omega)) (fun _ _ => Lc.ok rfl F.e)))
theorem Cx.postR_k (h : Bool) (F : FA l l' d n n' i i') : Pk l l' d i (postR l p h i) (postR l' p' h i'):=⟨Pk.bind F (C.primR_k h F) (fun _ _ => postF_g l C.G _ _ _) fun _ k k' _ K => C.postF_l _ _ _ k k' K (by omega) (by omega),postR_s l C.G h i,postR_b C.E C.B h F.a,postR_b C.E' C.B' h F.b⟩
theorem Cx.unaS_k (h : Bool) (F : FA l l' d n n' i i') : Pk l l' d i (unaS l p h i) (unaS l' p' h i'):=⟨Lc.at ((unaS_s l C.G h i).ge) F.e fun t => Lc.ite (by simp only [t.mk']) (fun h1 h2 => by
 have K : FB l l' d n n' (i + 1) (i' + 1):=F.on (Nat.lt_succ_self _) (by have:=F.e; omega) (C.E.p F.a h1) (C.E'.p F.b h2)
 exact Lc.le (Pk.bind K.fa (C.unak h K) (fun _ _ => Ge.ok _ _) fun _ _ _ _ K => Lc.ok (by rw [t.mk']) K.e) (Nat.le_succ _)) (fun _ _ => (C.postR_k h F).lc),unaS_s l C.G h i,unaS_b C.E C.B h F.a,unaS_b C.E' C.B' h F.b⟩
omit i i' in
theorem Cx.binF_l (h : Bool) {m : Int} (hm : 1 ≤ m) : ∀ f f' t0 i i',FB l l' d n n' i i' → l.length - i < f → l'.length - i' < f' → Lc l l' d i (binF l p h m f t0 i) (binF l' p' h m f' t0 i')
  | 0,_,_,_,_,_,h,_ => by omega
  | _ + 1,0,_,_,_,_,_,h => by omega
  | f + 1,f' + 1,t0,i,i',F,h0,h' => Lc.at (binF_g l C.G _ _ _ _ _) F.e fun t => by
   unfold binF
   refine Lc.ite (by rw [t.mk']) (fun h1 h2 => ?_) (fun _ _ => Lc.ok rfl F.e)
   have K : FB l l' d n n' (i + 1) (i' + 1):=F.fa.on (Nat.lt_succ_self _) (by have:=F.e; omega) (C.E.r hm F.a h1) (C.E'.r hm F.b h2)
   rw [t.mk']
   exact Lc.le (Pk.bind K.fa (C.bink h (by omega) K) (fun _ _ => binF_g l C.G _ _ _ _ _) fun _ k k' _ K => Cx.binF_l h hm f f' _ k k' K (by have:=F.a; omega) (by have:=F.b; have:=F.e; have:=K.e; omega)) (Nat.le_succ _)
theorem Cx.binS_l (h : Bool) {m : Int} (hm : 1 ≤ m) (F : FA l l' d n n' i i') (h1 : 3 * (l.length - i) ≤ n) (h2 : 3 * (l'.length - i') ≤ n') : Lc l l' d i (binS l p h m i) (binS l' p' h m i') :=
  Pk.bind F ⟨C.una h _ _ F.e F.a F.b h1 h2,C.G.una h i,C.B.una h i F.a,C.B'.una h i' F.b⟩ (fun _ _ => binF_g l C.G _ _ _ _ _) fun _ k k' _ K => C.binF_l h hm _ _ _ k k' K (by omega) (by omega)
theorem Cx.ifSS_l (F : FA l l' d n n' i i') (h1 : 3 * (l.length - i) + 1 ≤ n) (h2 : 3 * (l'.length - i') + 1 ≤ n') : Lc l l' d i (ifSS l p i) (ifSS l' p' i') :=
  Pk.bind F ⟨C.bin true 1 _ _ (by decide) F.e F.a F.b h1 h2,C.G.bin _ _ i,C.B.bin _ _ i (by decide) F.a,C.B'.bin _ _ i' (by decide) F.b⟩ (fun _ _ => Ge.bind (C.G.blk _).ge fun _ _ => Ge.ite (Ge.ite (Gs.next2 (Ge.bind (C.G.ifS _).ge fun _ _ => Ge.ok _ _)).ge (Gs.next (Ge.bind (C.G.blk _).ge fun _ _ => Ge.ok _ _)).ge) (Ge.ok _ _)) fun _ _ _ _ K =>
   Pk.bind K.fa (C.blkk K) (fun _ _ => Ge.ite (Ge.ite (Gs.next2 (Ge.bind (C.G.ifS _).ge fun _ _ => Ge.ok _ _)).ge (Gs.next (Ge.bind (C.G.blk _).ge fun _ _ => Ge.ok _ _)).ge) (Ge.ok _ _)) fun _ k k' _ K =>
    Lc.at (Ge.ite (Ge.ite (Gs.next2 (Ge.bind (C.G.ifS _).ge fun _ _ => Ge.ok _ _)).ge (Gs.next (Ge.bind (C.G.blk _).ge fun _ _ => Ge.ok _ _)).ge) (Ge.ok _ _)) K.e fun t => Lc.ite (by simp only [t.me]) (fun g1 g2 => by
     have K1:=C.m1 (by decide) K.fa g1 g2
     refine Lc.le (Lc.at (i':=k' + 1) (Ge.ite (Gs.next (Ge.bind (C.G.ifS _).ge fun _ _ => Ge.ok _ _)).ge (Ge.bind (C.G.blk _).ge fun _ _ => Ge.ok _ _)) K1.e fun t1 => Lc.ite (by simp only [t1.me]) (fun g3 g4 => ?_) (fun _ _ => Pk.bind K1.fa (C.blkk K1) (fun _ _ => Ge.ok _ _) fun _ _ _ _ K => Lc.ok rfl K.e)) (Nat.le_succ _)
     have K2:=C.m1 (by decide) K1.fa g3 g4
     exact Lc.le (Pk.bind K2.fa (C.ifk K2) (fun _ _ => Ge.ok _ _) fun _ _ _ _ K => Lc.ok rfl K.e) (Nat.le_succ _)) (fun _ _ => Lc.ok rfl K.e)
theorem Cx.forR_k (F : FB l l' d n n' i i') : Pk l l' d i (forR l p i) (forR l' p' i'):=⟨Lc.at ((forR_s l C.G i).ge) F.e fun t => Lc.ite (by simp only [t.me]) (fun _ _ => Pk.bind F.fa (C.blkk F) (fun _ _ => Ge.ok _ _) fun _ _ _ _ K => Lc.ok rfl K.e) (fun _ _ => Pk.bind F.fa (C.exprR_k true F) (fun _ _ => Ge.bind (C.G.blk _).ge fun _ _ => Ge.ok _ _) fun _ _ _ _ K => Pk.bind K.fa (C.blkk K) (fun _ _ => Ge.ok _ _) fun _ _ _ _ K => Lc.ok rfl K.e),forR_s l C.G i,forR_b C.B F.a,forR_b C.B' F.b⟩
theorem Cx.variableR_k (h : Bool) (F : FA l l' d n n' i i') : Pk l l' d i (variableR l p h i) (variableR l' p' h i'):=⟨Pk.bind F (C.nameR_k F) (fun _ _ => Ge.bind (C.G.typ _).ge fun _ _ => Ge.ite (Gs.next (Ge.bind (exprR_s C.G _ _).ge fun _ _ => Ge.ok _ _)).ge (Ge.ok _ _)) fun _ _ _ _ K => Pk.bind K.fa (C.typk K) (fun _ _ => Ge.ite (Gs.next (Ge.bind (exprR_s C.G _ _).ge fun _ _ => Ge.ok _ _)).ge (Ge.ok _ _)) fun _ k k' _ K => Lc.at (Ge.ite (Gs.next (Ge.bind (exprR_s C.G _ _).ge fun _ _ => Ge.ok _ _)).ge (Ge.ok _ _)) K.e fun t => Lc.ite (by simp only [t.me]) (fun g1 g2 => Lc.le (Pk.bind (C.m1 (by decide) K.fa g1 g2).fa (C.exprR_k h (C.m1 (by decide) K.fa g1 g2)) (fun _ _ => Ge.ok _ _) fun _ _ _ _ K => Lc.ok rfl K.e) (Nat.le_succ _)) (fun _ _ => Lc.ok rfl K.e),variableR_s l C.G h i,variableR_b C.E C.B h F.a,variableR_b C.E' C.B' h F.b⟩
theorem Cx.assignedR_l (h : Bool) (kind : Int) (ts : List Tr) (F : FB l l' d n n' (i + 1) (i' + 1)) : Lc l l' d i (assignedR l p h kind ts i) (assignedR l' p' h kind ts i'):=Lc.le (Pk.bind F.fa (C.exprsR_k h F) (fun _ _ => Ge.ok _ _) fun _ _ _ _ K => Lc.ok rfl K.e) (Nat.le_succ _)
theorem Cx.assignmentR_k (h : Bool) (F : FB l l' d n n' i i') : Pk l l' d i (assignmentR l p h i) (assignmentR l' p' h i'):=by
 have hg : ∀ (es : List Tr) k,Ge k (if isM l k [58,61] && es.all isNameT then assignedR l p h 22 es k else if isM l k [61] && es.all isPlaceT then assignedR l p h 23 es k else match es with
     | [e] => if isCallT e then .ok (.mk 24 [] 0 [e]) k else .bad k
     | _ => .bad k):=fun es k => Ge.ite (assignedR_s l C.G _ _ _ _).ge (Ge.ite (assignedR_s l C.G _ _ _ _).ge (by
   split
   · exact Ge.ite (Ge.ok _ _) (Ge.bad _)
   · exact Ge.bad _))
 refine ⟨Pk.bind F.fa (C.exprsR_k h F) hg fun es k k' _ K => Lc.at (hg es k) K.e fun t => ?_,assignmentR_s l C.G h i,assignmentR_b C.E C.B h F.a,assignmentR_b C.E' C.B' h F.b⟩
 refine Lc.ite (by simp only [t.me]) (fun g1 g2 => ?_) (fun _ _ => Lc.ite (by simp only [t.me]) (fun g1 g2 => ?_) (fun _ _ => ?_))
 · simp only [Bool.and_eq_true] at g1 g2
   exact C.assignedR_l h _ _ (C.m1 (by decide) K.fa g1.1 g2.1)
 · simp only [Bool.and_eq_true] at g1 g2
   exact C.assignedR_l h _ _ (C.m1 (by decide) K.fa g1.1 g2.1)
 · split
   · exact Lc.ite Iff.rfl (fun _ _ => Lc.ok rfl K.e) (fun _ _ => Lc.bad K.e)
   · exact Lc.bad K.e
theorem Cx.simpleR_k (h : Bool) (F : FB l l' d n n' i i') : Pk l l' d i (simpleR l p h i) (simpleR l' p' h i'):=by
 refine ⟨Lc.at (simpleR_s l C.G h i).ge F.e fun t => ?_,simpleR_s l C.G h i,simpleR_b C.E C.B h F.a,simpleR_b C.E' C.B' h F.b⟩
 refine Lc.ite (by simp only [t.me]) (fun g1 g2 => (C.variableR_k h (C.m1 (by decide) F.fa g1 g2).fa).lc.le (Nat.le_succ _)) (fun _ _ => Lc.ite (by simp only [t.me]) (fun _ _ => Lc.ok rfl (by have:=F.e; omega)) (fun _ _ => Lc.ite (by simp only [t.me]) (fun _ _ => Lc.ok rfl (by have:=F.e; omega)) (fun _ _ => Lc.ite (by simp only [t.me]) (fun g1 g2 => ?_) (fun _ _ => (C.assignmentR_k h F).lc))))
 have K:=C.m1 (by decide) F.fa g1 g2
 exact Lc.le (Lc.at (i':=i' + 1) (Ge.ite (Ge.ok _ _) (Ge.bind (exprsR_s l C.G _ _).ge fun _ _ => Ge.ok _ _)) K.e fun t1 => Lc.ite (by simp only [t1.me]) (fun _ _ => Lc.ok rfl K.e) (fun _ _ => Pk.bind K.fa (C.exprsR_k h K) (fun _ _ => Ge.ok _ _) fun _ _ _ _ K => Lc.ok rfl K.e)) (Nat.le_succ _)
theorem Cx.stmtR_k (h : Bool) (F : FB l l' d n n' i i') : Pk l l' d i (stmtR l p h i) (stmtR l' p' h i'):=by
 refine ⟨Lc.at (stmtR_s l C.G h i).ge F.e fun t => ?_,stmtR_s l C.G h i,stmtR_b C.E C.B h F.a,stmtR_b C.E' C.B' h F.b⟩
 exact Lc.ite (by simp only [t.me]) (fun _ _ => (C.blkk F).lc) (fun _ _ => Lc.ite (by simp only [t.me]) (fun g1 g2 => (C.ifk (C.m1 (by decide) F.fa g1 g2)).lc.le (Nat.le_succ _)) (fun _ _ => Lc.ite (by simp only [t.me]) (fun g1 g2 => (C.forR_k (C.m1 (by decide) F.fa g1 g2)).lc.le (Nat.le_succ _))
   (fun _ _ => Pk.bind F.fa (C.simpleR_k h F) (fun _ _ => Ge.bind (needR_g l _ _) fun _ _ => Ge.ok _ _) fun _ _ _ _ K => Pk.bind K.fa (C.needR_k (by decide) K.fa) (fun _ _ => Ge.ok _ _) fun _ _ _ _ K => Lc.ok rfl K.e)))
theorem Cx.itStmt : It l l' d n n' (stmtR l p false) (stmtR l' p' false):=⟨fun _ _ F => C.stmtR_k false F,stmtR_s l C.G false,fun _ h => stmtR_b C.E C.B false h,fun _ h => stmtR_b C.E' C.B' false h⟩
theorem Cx.blkS_k (F : FA l l' d n n' i i') : Pk l l' d i (blkS l p i) (blkS l' p' i'):=⟨Pk.bind F (C.membersR_k C.itStmt F) (fun _ _ => Ge.ok _ _) fun _ _ _ _ K => Lc.ok rfl K.e,blkS_s l C.G i,blkS_b C.E C.B F.a,blkS_b C.E' C.B' F.b⟩
theorem Cx.fieldR_k (F : FA l l' d n n' i i') : Pk l l' d i (fieldR l p i) (fieldR l' p' i'):=⟨Pk.bind F (C.nameR_k F) (fun _ _ => Ge.bind (C.G.typ _).ge fun _ _ => Ge.bind (needR_g l _ _) fun _ _ => Ge.ok _ _) fun _ _ _ _ K => Pk.bind K.fa (C.typk K) (fun _ _ => Ge.bind (needR_g l _ _) fun _ _ => Ge.ok _ _) fun _ _ _ _ K => Pk.bind K.fa (C.needR_k (by decide) K.fa) (fun _ _ => Ge.ok _ _) fun _ _ _ _ K => Lc.ok rfl K.e,fieldR_s l C.G i,fieldR_b C.E C.B F.a,fieldR_b C.E' C.B' F.b⟩
theorem Cx.methodR_k (F : FA l l' d n n' i i') : Pk l l' d i (methodR l p i) (methodR l' p' i'):=⟨Pk.bind F (C.nameR_k F) (fun _ _ => Ge.bind (sigR_s l C.G _).ge fun _ _ => Ge.bind (needR_g l _ _) fun _ _ => Ge.ok _ _) fun _ _ _ _ K => Pk.bind K.fa (C.sigR_k K.fa) (fun _ _ => Ge.bind (needR_g l _ _) fun _ _ => Ge.ok _ _) fun _ _ _ _ K => Pk.bind K.fa (C.needR_k (by decide) K.fa) (fun _ _ => Ge.ok _ _) fun _ _ _ _ K => Lc.ok rfl K.e,methodR_s l C.G i,methodR_b C.E C.B F.a,methodR_b C.E' C.B' F.b⟩
theorem Cx.receiverR_k (F : FA l l' d n n' i i') : Pk l l' d i (receiverR l i) (receiverR l' i'):=⟨Pk.bind F (C.nameR_k F) (fun _ _ => Ge.bind (needR_g l _ _) fun _ _ => Ge.bind (nameR_g l _) fun _ _ => Ge.ok _ _) fun _ _ _ _ K => Pk.bind K.fa (C.needR_k (by decide) K.fa) (fun _ _ => Ge.bind (nameR_g l _) fun _ _ => Ge.ok _ _) fun _ _ _ _ K => Pk.bind K.fa (C.nameR_k K.fa) (fun _ _ => Ge.ok _ _) fun _ _ _ _ K => Lc.ok rfl K.e,receiverR_s l i,receiverR_b C.E F.a,receiverR_b C.E' F.b⟩
theorem Cx.itField : It l l' d n n' (fieldR l p) (fieldR l' p'):=⟨fun _ _ F => C.fieldR_k F.fa,fieldR_s l C.G,fun _ h => fieldR_b C.E C.B h,fun _ h => fieldR_b C.E' C.B' h⟩
theorem Cx.itMethod : It l l' d n n' (methodR l p) (methodR l' p'):=⟨fun _ _ F => C.methodR_k F.fa,methodR_s l C.G,fun _ h => methodR_b C.E C.B h,fun _ h => methodR_b C.E' C.B' h⟩
theorem Cx.typeDeclR_k (F : FA l l' d n n' i i') : Pk l l' d i (typeDeclR l p i) (typeDeclR l' p' i'):=⟨Pk.bind F (C.nameR_k F) (fun _ _ => Ge.ite (Gs.next (Ge.bind (membersR_s l (fieldR_s l C.G) _).ge fun _ _ => Ge.ok _ _)).ge (Ge.bind (needR_g l _ _) fun _ _ => Ge.bind (membersR_s l (methodR_s l C.G) _).ge fun _ _ => Ge.ok _ _)) fun _ k k' _ K => Lc.at (Ge.ite (Gs.next (Ge.bind (membersR_s l (fieldR_s l C.G) _).ge fun _ _ => Ge.ok _ _)).ge (Ge.bind (needR_g l _ _) fun _ _ => Ge.bind (membersR_s l (methodR_s l C.G) _).ge fun _ _ => Ge.ok _ _)) K.e fun t => Lc.ite (by simp only [t.me]) (fun g1 g2 => Lc.le (Pk.bind (C.m1 (by decide) K.fa g1 g2).fa (C.membersR_k C.itField (C.m1 (by decide) K.fa g1 g2).fa) (fun _ _ => Ge.ok _ _) fun _ _ _ _ K => Lc.ok rfl K.e) (Nat.le_succ _)) (fun _ _ => Pk.bind K.fa (C.needR_k (by decide) K.fa) (fun _ _ => Ge.bind (membersR_s l (methodR_s l C.G) _).ge fun _ _ => Ge.ok _ _) fun _ _ _ _ K => Pk.bind K.fa (C.membersR_k C.itMethod K.fa) (fun _ _ => Ge.ok _ _) fun _ _ _ _ K => Lc.ok rfl K.e),typeDeclR_s l C.G i,typeDeclR_b C.E C.B F.a,typeDeclR_b C.E' C.B' F.b⟩
theorem Cx.declR_k (F : FB l l' d n n' i i') : Pk l l' d i (declR l p i) (declR l' p' i'):=⟨Lc.at ((declR_s l C.G i).ge) F.e fun t => Lc.ite (by simp only [t.me]) (fun g1 g2 => (C.typeDeclR_k (C.m1 (by decide) F.fa g1 g2).fa).lc.le (Nat.le_succ _)) (fun _ _ => Pk.bind F.fa (C.needR_k (by decide) F.fa) (fun _ _ => Ge.ite (Ge.bind (betweenR_s l (fun k => (receiverR_s l k).ge) _ _ _).ge fun _ _ => Ge.bind (nameR_g l _) fun _ _ => Ge.bind (sigR_s l C.G _).ge fun _ _ => Ge.bind (C.G.blk _).ge fun _ _ => Ge.ok _ _) (Ge.bind (nameR_g l _) fun _ _ => Ge.bind (sigR_s l C.G _).ge fun _ _ => Ge.bind (C.G.blk _).ge fun _ _ => Ge.ok _ _)) fun _ k k' _ K => Lc.at (Ge.ite (Ge.bind (betweenR_s l (fun k => (receiverR_s l k).ge) _ _ _).ge fun _ _ => Ge.bind (nameR_g l _) fun _ _ => Ge.bind (sigR_s l C.G _).ge fun _ _ => Ge.bind (C.G.blk _).ge fun _ _ => Ge.ok _ _) (Ge.bind (nameR_g l _) fun _ _ => Ge.bind (sigR_s l C.G _).ge fun _ _ => Ge.bind (C.G.blk _).ge fun _ _ => Ge.ok _ _)) K.e fun t => Lc.ite (by simp only [t.me]) (fun _ _ => Pk.bind K.fa ⟨C.betweenR_l (fun k => (receiverR_s l k).ge) (fun _ _ K => (C.receiverR_k K.fa).wk) (by decide) (by decide) K.fa,betweenR_s l (fun k => (receiverR_s l k).ge) _ _ _,betweenR_b C.E (fun _ hk => receiverR_b C.E hk) (by decide) (by decide) K.a,betweenR_b C.E' (fun _ hk => receiverR_b C.E' hk) (by decide) (by decide) K.b⟩ (fun _ _ => Ge.bind (nameR_g l _) fun _ _ => Ge.bind (sigR_s l C.G _).ge fun _ _ => Ge.bind (C.G.blk _).ge fun _ _ => Ge.ok _ _) fun _ _ _ _ K => Pk.bind K.fa (C.nameR_k K.fa) (fun _ _ => Ge.bind (sigR_s l C.G _).ge fun _ _ => Ge.bind (C.G.blk _).ge fun _ _ => Ge.ok _ _) fun _ _ _ _ K => Pk.bind K.fa (C.sigR_k K.fa) (fun _ _ => Ge.bind (C.G.blk _).ge fun _ _ => Ge.ok _ _) fun _ _ _ _ K => Pk.bind K.fa (C.blkk K) (fun _ _ => Ge.ok _ _) fun _ _ _ _ K => Lc.ok rfl K.e) (fun _ _ => Pk.bind K.fa (C.nameR_k K.fa) (fun _ _ => Ge.bind (sigR_s l C.G _).ge fun _ _ => Ge.bind (C.G.blk _).ge fun _ _ => Ge.ok _ _) fun _ _ _ _ K => Pk.bind K.fa (C.sigR_k K.fa) (fun _ _ => Ge.bind (C.G.blk _).ge fun _ _ => Ge.ok _ _) fun _ _ _ _ K => Pk.bind K.fa (C.blkk K) (fun _ _ => Ge.ok _ _) fun _ _ _ _ K => Lc.ok rfl K.e)),declR_s l C.G i,declR_b C.E C.B F.a,declR_b C.E' C.B' F.b⟩
theorem Cx.itDecl : It l l' d n n' (declR l p) (declR l' p'):=⟨fun _ _ F => C.declR_k F,declR_s l C.G,fun _ h => declR_b C.E C.B h,fun _ h => declR_b C.E' C.B' h⟩
end
theorem cxs {l l' : List Tk} (E : Ended l) (E' : Ended l') (d : Nat) : ∀ n n',Cx l l' d n n' (ps l n) (ps l' n')
  | 0,n' => ⟨E,E',ps_s l 0,ps_b E 0,ps_b E' n',fun _ _ _ _ _ h _ => by omega,fun _ _ _ _ _ _ _ _ h _ => by omega,fun _ _ _ _ _ _ h _ => by omega,fun _ _ _ _ _ h _ => by omega,fun _ _ _ _ _ h _ => by omega⟩
  | n + 1,0 => ⟨E,E',ps_s l _,ps_b E _,ps_b E' 0,fun _ _ _ _ _ _ h => by omega,fun _ _ _ _ _ _ _ _ _ h => by omega,fun _ _ _ _ _ _ _ h => by omega,fun _ _ _ _ _ _ h => by omega,fun _ _ _ _ _ _ h => by omega⟩
  | n + 1,n' + 1 =>
   have C:=cxs E E' d n n'
   ⟨E,E',ps_s l _,ps_b E _,ps_b E' _,fun _ _ e a b h1 h2 => (C.typS_k ⟨e,a,b,h1,h2⟩).lc,fun h _ _ _ hm e a b h1 h2 => C.binS_l h hm ⟨e,a,b,by omega,by omega⟩ (by omega) (by omega),fun h _ _ e a b h1 h2 => (C.unaS_k h ⟨e,a,b,h1,h2⟩).lc,fun _ _ e a b h1 h2 => (C.blkS_k ⟨e,a,b,h1,h2⟩).lc,fun _ _ e a b h1 h2 => C.ifSS_l ⟨e,a,b,by omega,by omega⟩ (by omega) (by omega)⟩
end Go.Proofs.YtffnaknidofobaaGreatDoor
