/- The numbers of what is read are numbers of tokens: plain. -/
import Derived.Test.YtffnaknidofobaaGreatDoorSpacMJt
import Derived.Test.YtffnaknidofobaaGreatDoorBkSJt
namespace Go.Proofs.YtffnaknidofobaaGreatDoor
def Nb : Nat → Tr → Prop
  | 0,_ => True
  | n + 1,t => (t.kind = 40 → t.num ≤ 9223372036854775807) ∧ ∀ k ∈ t.kids,Nb n k
def Nu (t : Tr) : Prop:=∀ n,Nb n t
theorem nu_mk {k n : Int} {s : List UInt8} {ks : List Tr} (h : k ≠ 40) (hk : Al Nu ks) : Nu (.mk k s n ks)
  | 0 => trivial
  | m + 1 => ⟨fun e => absurd e h,fun x hx => hk x hx m⟩
theorem nu_40 {n : Int} (h : n ≤ 9223372036854775807) : Nu (.mk 40 [] n [])
  | 0 => trivial
  | _ + 1 => ⟨fun _ => h,fun _ hx => by cases hx⟩
theorem al_one {P : Tr → Prop} {a : Tr} (h : P a) : Al P [a]:=fun x hx => by rw [List.mem_singleton.1 hx]; exact h
theorem al_cons {P : Tr → Prop} {a : Tr} {ts : List Tr} (h : P a) (h2 : Al P ts) : Al P (a :: ts):=fun x hx => (List.mem_cons.1 hx).elim (fun e => e ▸ h) (h2 x)
theorem al_app {P : Tr → Prop} {us ts : List Tr} (h : Al P us) (h2 : Al P ts) : Al P (us ++ ts):=fun x hx => (List.mem_append.1 hx).elim (h x) (h2 x)
structure PsN (p : Ps) : Prop where
  typ : ∀ i,Rp Nu (p.typ i)
  bin : ∀ h n i,Rp Nu (p.bin h n i)
  una : ∀ h i,Rp Nu (p.una h i)
  blk : ∀ i,Rp Nu (p.blk i)
  ifS : ∀ i,Rp Nu (p.ifS i)
section
variable {l : List Tk} {p : Ps} (S : PsN p)
theorem nameR_n (i : Nat) : Rp (fun _ => True) (nameR l i):=Rp.ite (fun _ => Rp.ok trivial _) (fun _ => Rp.bad _)
include S
theorem resultsR_n (i : Nat) : Rp (Al Nu) (resultsR l p i):=Rp.ite (fun _ => betweenR_p (fun k => (commasR_p S.typ k).mono fun _ h => h.2) _ _ i) (fun _ => Rp.ite (fun _ => Rp.bind (S.typ i) fun _ _ ht => Rp.ok (al_one ht) _) (fun _ => Rp.ok al_nil _))
theorem functionR_n {param : Nat → Res Tr} (h : ∀ k,Rp Nu (param k)) {kind : Int} (hk : kind ≠ 40) (i : Nat) : Rp Nu (functionR l p kind param i) :=
  Rp.bind (listedR_p h _ _ i) fun _ _ hts => Rp.bind (resultsR_n S _) fun _ _ hus => Rp.ok (nu_mk hk (al_app hts hus)) _
theorem typS_n (i : Nat) : Rp Nu (typS l p i) :=
  Rp.ite (fun _ => Rp.ok (nu_mk (by decide) al_nil) _) (fun _ => Rp.ite (fun _ => Rp.bind (S.typ _) fun _ _ h => Rp.ok (nu_mk (by decide) (al_one h)) _) (fun _ => Rp.ite (fun _ => Rp.bind (needR_p _ _) fun _ _ _ => Rp.bind (S.typ _) fun _ _ h => Rp.ok (nu_mk (by decide) (al_one h)) _) (fun _ => Rp.bind (needR_p _ _) fun _ _ _ => functionR_n S S.typ (by decide) _)))
theorem paramR_n (i : Nat) : Rp Nu (paramR l p i):=Rp.bind (nameR_n i) fun _ _ _ => Rp.bind (S.typ _) fun _ _ h => Rp.ok (nu_mk (by decide) (al_one h)) _
theorem sigR_n (i : Nat) : Rp Nu (sigR l p i):=functionR_n S (paramR_n S) (by decide) i
omit l in
theorem exprR_n (h : Bool) (i : Nat) : Rp Nu (exprR p h i):=S.bin _ _ _
theorem exprsR_n (h : Bool) (i : Nat) : Rp (Al Nu) (exprsR l p h i):=(commasR_p (exprR_n S h) i).mono fun _ h => h.2
theorem elementsR_n (i : Nat) : Rp (Al Nu) (elementsR l p i):=listedR_p (exprR_n S false) _ _ i
theorem namedR_n (h : Bool) (i : Nat) : Rp Nu (namedR l p h i):=Rp.bind (nameR_n i) fun _ _ _ => Rp.ite (fun _ => Rp.bind (elementsR_n S _) fun _ _ he => Rp.ok (nu_mk (by decide) he) _) (fun _ => Rp.ok (nu_mk (by decide) al_nil) _)
theorem cutR_n {num : Int} {ks : List Tr} (hk : Al Nu ks) (i : Nat) : Rp Nu (cutR l p num ks i) :=
  Rp.bind (needR_p _ i) fun _ _ _ => Rp.ite (fun _ => Rp.ok (nu_mk (by decide) hk) _) (fun _ => Rp.bind (exprR_n S _ _) fun _ _ he => Rp.ok (nu_mk (by decide) (al_snoc hk he)) _)
theorem partR_n {t : Tr} (ht : Nu t) (i : Nat) : Rp Nu (partR l p t i) :=
  Rp.ite (fun _ => cutR_n S (al_one ht) i) (fun _ => Rp.bind (exprR_n S _ _) fun b _ hb => Rp.ite (fun _ => cutR_n S (al_cons ht (al_one hb)) _) (fun _ => Rp.ok (nu_mk (by decide) (al_cons ht (al_one hb))) _))
variable (T : ∀ i,kindA l i = 2 → numA l i ≤ 9223372036854775807)
include T
theorem primR_n (h : Bool) (i : Nat) : Rp Nu (primR l p h i) :=
  Rp.ite (fun h => Rp.ok (nu_40 (T i (beq_iff_eq.1 h))) _) (fun _ => Rp.ite (fun _ => Rp.ok (nu_mk (by decide) al_nil) _) (fun _ => Rp.ite (fun _ => namedR_n S _ _) (fun _ => Rp.ite (fun _ => Rp.ok (nu_mk (by decide) al_nil) _) (fun _ => Rp.ite (fun _ => Rp.ok (nu_mk (by decide) al_nil) _) (fun _ => Rp.ite (fun _ => Rp.ok (nu_mk (by decide) al_nil) _) (fun _ => Rp.ite (fun _ => betweenR_p (fun k => exprR_n S _ k) _ _ _)
    (fun _ => Rp.ite (fun _ => Rp.bind (needR_p _ _) fun _ _ _ => Rp.bind (S.typ _) fun _ _ ht => Rp.bind (elementsR_n S _) fun _ _ he => Rp.ok (nu_mk (by decide) (al_cons ht he)) _) (fun _ => Rp.bind (needR_p _ _) fun _ _ _ => Rp.bind (sigR_n S _) fun _ _ hs => Rp.bind (S.blk _) fun _ _ hb => Rp.ok (nu_mk (by decide) (al_cons hs (al_one hb))) _))))))))
omit T in
theorem postF_n : ∀ f t i,Nu t → Rp Nu (postF l p f t i)
  | 0,_,_,_ => Rp.bad _
  | f + 1,_,_,ht => Rp.ite (fun _ => Rp.bind (nameR_n _) fun _ _ _ => postF_n f _ _ (nu_mk (by decide) (al_one ht))) (fun _ => Rp.ite (fun _ => Rp.bind (betweenR_p (fun k => partR_n S ht k) _ _ _) fun _ _ h => postF_n f _ _ h) (fun _ => Rp.ite (fun _ => Rp.bind (listedR_p (exprR_n S _) _ _ _) fun _ _ he => postF_n f _ _ (nu_mk (by decide) (al_cons ht he))) (fun _ => Rp.ok ht _)))
theorem postR_n (h : Bool) (i : Nat) : Rp Nu (postR l p h i):=Rp.bind (primR_n S T h i) fun _ _ ht => postF_n S _ _ _ ht
theorem unaS_n (h : Bool) (i : Nat) : Rp Nu (unaS l p h i):=Rp.ite (fun _ => Rp.bind (S.una _ _) fun _ _ ht => Rp.ok (nu_mk (by decide) (al_one ht)) _) (fun _ => postR_n S T _ _)
omit T in
theorem binF_n (h : Bool) (n : Int) : ∀ f t i,Nu t → Rp Nu (binF l p h n f t i)
  | 0,_,_,_ => Rp.bad _
  | f + 1,_,_,ht => Rp.ite (fun _ => Rp.bind (S.bin _ _ _) fun _ _ hu => binF_n h n f _ _ (nu_mk (by decide) (al_cons ht (al_one hu)))) (fun _ => Rp.ok ht _)
omit T in
theorem binS_n (h : Bool) (n : Int) (i : Nat) : Rp Nu (binS l p h n i):=Rp.bind (S.una _ _) fun _ _ ht => binF_n S h n _ _ _ ht
omit T in
theorem ifSS_n (i : Nat) : Rp Nu (ifSS l p i):=Rp.bind (exprR_n S true i) fun _ _ hc => Rp.bind (S.blk _) fun _ _ hb => Rp.ite (fun _ => Rp.ite (fun _ => Rp.bind (S.ifS _) fun _ _ he => Rp.ok (nu_mk (by decide) (al_cons hc (al_cons hb (al_one he)))) _) (fun _ => Rp.bind (S.blk _) fun _ _ he => Rp.ok (nu_mk (by decide) (al_cons hc (al_cons hb (al_one he)))) _)) (fun _ => Rp.ok (nu_mk (by decide) (al_cons hc (al_one hb))) _)
omit T in
theorem forR_n (i : Nat) : Rp Nu (forR l p i):=Rp.ite (fun _ => Rp.bind (S.blk _) fun _ _ hb => Rp.ok (nu_mk (by decide) (al_one hb)) _) (fun _ => Rp.bind (exprR_n S true i) fun _ _ hc => Rp.bind (S.blk _) fun _ _ hb => Rp.ok (nu_mk (by decide) (al_cons hc (al_one hb))) _)
omit T in
theorem variableR_n (h : Bool) (i : Nat) : Rp Nu (variableR l p h i):=Rp.bind (nameR_n i) fun _ _ _ => Rp.bind (S.typ _) fun _ _ ht => Rp.ite (fun _ => Rp.bind (exprR_n S _ _) fun _ _ he => Rp.ok (nu_mk (by decide) (al_cons ht (al_one he))) _) (fun _ => Rp.ok (nu_mk (by decide) (al_one ht)) _)
omit T in
theorem assignmentR_n (h : Bool) (i : Nat) : Rp Nu (assignmentR l p h i):=Rp.bind (exprsR_n S h i) fun es _ he => Rp.ite (fun _ => Rp.bind (exprsR_n S h _) fun us _ hu => Rp.ok (nu_mk (by decide) (al_app he hu)) _) (fun _ => Rp.ite (fun _ => Rp.bind (exprsR_n S h _) fun us _ hu => Rp.ok (nu_mk (by decide) (al_app he hu)) _) (fun _ => by
 split
 · exact Rp.ite (fun _ => Rp.ok (nu_mk (by decide) he) _) (fun _ => Rp.bad _)
 · exact Rp.bad _))
omit T in
theorem simpleR_n (h : Bool) (i : Nat) : Rp Nu (simpleR l p h i) :=
  Rp.ite (fun _ => variableR_n S _ _) (fun _ => Rp.ite (fun _ => Rp.ok (nu_mk (by decide) al_nil) _) (fun _ => Rp.ite (fun _ => Rp.ok (nu_mk (by decide) al_nil) _) (fun _ => Rp.ite (fun _ => Rp.ite (fun _ => Rp.ok (nu_mk (by decide) al_nil) _) (fun _ => Rp.bind (exprsR_n S _ _) fun _ _ he => Rp.ok (nu_mk (by decide) he) _)) (fun _ => assignmentR_n S _ _))))
omit T in
theorem stmtR_n (h : Bool) (i : Nat) : Rp Nu (stmtR l p h i) :=
  Rp.ite (fun _ => S.blk i) (fun _ => Rp.ite (fun _ => S.ifS _) (fun _ => Rp.ite (fun _ => forR_n S _) (fun _ => Rp.bind (simpleR_n S _ _) fun _ _ ht => Rp.bind (needR_p _ _) fun _ _ _ => Rp.ok ht _)))
omit T in
theorem blkS_n (i : Nat) : Rp Nu (blkS l p i):=Rp.bind (membersR_p (stmtR_n S false) i) fun _ _ h => Rp.ok (nu_mk (by decide) h) _
omit T in
theorem typeDeclR_n (i : Nat) : Rp Nu (typeDeclR l p i):=Rp.bind (nameR_n i) fun _ _ _ => Rp.ite (fun _ => Rp.bind (membersR_p (P:=Nu) (fun k => Rp.bind (nameR_n k) fun _ _ _ => Rp.bind (S.typ _) fun _ _ ht => Rp.bind (needR_p _ _) fun _ _ _ => Rp.ok (nu_mk (by decide) (al_one ht)) _) _) fun _ _ h => Rp.ok (nu_mk (by decide) h) _)
  (fun _ => Rp.bind (needR_p _ _) fun _ _ _ => Rp.bind (membersR_p (P:=Nu) (fun k => Rp.bind (nameR_n k) fun _ _ _ => Rp.bind (sigR_n S _) fun _ _ ht => Rp.bind (needR_p _ _) fun _ _ _ => Rp.ok (nu_mk (by decide) (al_one ht)) _) _) fun _ _ h => Rp.ok (nu_mk (by decide) h) _)
omit T in
theorem declR_n (i : Nat) : Rp Nu (declR l p i) :=
  Rp.ite (fun _ => typeDeclR_n S _) (fun _ => Rp.bind (needR_p _ i) fun _ _ _ => Rp.ite (fun _ => Rp.bind (betweenR_p (R:=Nu) (fun k => Rp.bind (nameR_n k) fun _ _ _ => Rp.bind (needR_p _ _) fun _ _ _ => Rp.bind (nameR_n _) fun _ _ _ => Rp.ok (nu_mk (by decide) (al_one (nu_mk (by decide) (al_one (nu_mk (by decide) al_nil))))) _) _ _ _) fun _ _ hr => Rp.bind (nameR_n _) fun _ _ _ => Rp.bind (sigR_n S _) fun _ _ hg => Rp.bind (S.blk _) fun _ _ hb => Rp.ok (nu_mk (by decide) (al_cons hr (al_cons hg (al_one hb)))) _)
    (fun _ => Rp.bind (nameR_n _) fun _ _ _ => Rp.bind (sigR_n S _) fun _ _ hg => Rp.bind (S.blk _) fun _ _ hb => Rp.ok (nu_mk (by decide) (al_cons hg (al_one hb))) _))
omit S in
theorem ps_n : ∀ n,PsN (ps l n)
  | 0 => ⟨fun _ => Rp.bad _,fun _ _ _ => Rp.bad _,fun _ _ => Rp.bad _,fun _ => Rp.bad _,fun _ => Rp.bad _⟩
  | n + 1 => ⟨typS_n (ps_n n),binS_n (ps_n n),unaS_n (ps_n n) T,blkS_n (ps_n n),ifSS_n (ps_n n)⟩
omit S in
theorem treeR_nu {t : Tr} {j : Nat} (h : treeR l = .ok t j) : Nu t:=by
 have hp : Rp Nu (treeR l):=Rp.bind (upToR_p (declR_n (ps_n T _)) _ _) fun ts _ h => Rp.ok (nu_mk (by decide) h) _
 exact hp t j h
end
section
variable {n : Nat} {t : Tr}
theorem parted_num {ks : List Tr} {v : Int} {p q : Tr → Bool} (h : partedB ks v p q = true) (hl : ks.length ≤ 20000) : v ≤ 9223372036854775807:=by
 simp only [partedB,Bool.and_eq_true,decide_eq_true_eq] at h
 omega
theorem partedB_mem {ks : List Tr} {v : Int} {p q : Tr → Bool} (h : partedB ks v p q = true) : ∀ k ∈ ks,p k = true ∨ q k = true:=fun k hk => by
 simp only [partedB,Bool.and_eq_true,List.all_eq_true] at h
 rw [← List.take_append_drop v.toNat ks] at hk
 exact (List.mem_append.1 hk).elim (fun hk => .inl (h.2.2.1 k hk)) (fun hk => .inr (h.2.2.2 k hk))
theorem nm_typ : ∀ (n : Nat) (t : Tr),snd n .typ t = true → Lim n t → nmT n t
  | 0,_,h,_ => by simp [snd] at h
  | n + 1,.mk k s v ks,h,hl => by
   by_cases e10 : k = 10
   · subst e10
     simp [snd,typB,namedT,Tr.kind,Tr.text,Tr.num,Tr.kids] at h
     have:=List.eq_nil_of_length_eq_zero (rowB_length h.2)
     subst this
     exact ⟨by show v ≤ _; omega,fun _ hx => by cases hx⟩
   by_cases e11 : k = 11
   · subst e11
     simp [snd,typB,bareT,Tr.kind,Tr.text,Tr.num,Tr.kids] at h
     obtain ⟨y,rfl,hy⟩:=row1B h.2
     exact ⟨by show v ≤ _; omega,al_one (nm_typ n y hy (hl.2 y (by simp [Tr.kids])))⟩
   by_cases e12 : k = 12
   · subst e12
     simp [snd,typB,bareT,Tr.kind,Tr.text,Tr.num,Tr.kids] at h
     obtain ⟨y,rfl,hy⟩:=row1B h.2
     exact ⟨by show v ≤ _; omega,al_one (nm_typ n y hy (hl.2 y (by simp [Tr.kids])))⟩
   by_cases e13 : k = 13
   · subst e13
     simp [snd,typB,numberedT,Tr.kind,Tr.text,Tr.num,Tr.kids] at h
     exact ⟨parted_num h.2 hl.1,fun x hx => nm_typ n x ((partedB_mem h.2 x hx).elim id id) (hl.2 x hx)⟩
   simp [snd,typB,Tr.kind,e10,e11,e12,e13] at h
theorem nm_parB (h : parB (snd n) t = true) (hl : Lim (n + 1) t) : nmT (n + 1) t:=by
 obtain ⟨s,y,rfl,_,hy⟩:=par_inv h
 exact ⟨by show (0 : Int) ≤ _; decide,al_one (nm_typ n y hy (hl.2 y (by simp [Tr.kids])))⟩
theorem nm_par (h : snd n .par t = true) (hl : Lim n t) : nmT n t:=by
 match n,h with
 | 0,h => simp [snd] at h
 | n + 1,h => exact nm_parB h hl
theorem nm_sig (h : snd n .sig t = true) (hl : Lim n t) : nmT n t:=by
 match n,h with
 | 0,h => simp [snd] at h
 | n + 1,h =>
  obtain ⟨_,_,h3⟩:=sig_inv (show sigB (snd n) t = true from h)
  exact ⟨parted_num h3 hl.1,fun x hx => (partedB_mem h3 x hx).elim (fun h => nm_par h (hl.2 x hx)) (fun h => nm_typ n x h (hl.2 x hx))⟩
structure NmAll (n : Nat) : Prop where
  blk : ∀ t,snd n .blk t = true → Lim n t → Nb n t → nmT n t
  els : ∀ t,snd n .els t = true → Lim n t → Nb n t → nmT n t
  stm : ∀ t,snd n .stm t = true → Lim n t → Nb n t → nmT n t
  exp : ∀ t,snd n .exp t = true → Lim n t → Nb n t → nmT n t
theorem nm_exp (I : NmAll n) (t : Tr) (h : snd (n + 1) .exp t = true) (hl : Lim (n + 1) t) (hb : Nb (n + 1) t) : nmT (n + 1) t:=by
 have hc:=exp_cases (show expB (snd n) t = true from h)
 have hl2:=hl.2
 have hb2:=hb.2
 have hb1:=hb.1
 clear h hl hb
 cases hc with
 | int k h0 => exact ⟨hb1 rfl,fun _ hx => by cases hx⟩
 | str s h0 => exact ⟨by show (0 : Int) ≤ _; decide,fun _ hx => by cases hx⟩
 | tt => exact ⟨by show (1 : Int) ≤ _; decide,fun _ hx => by cases hx⟩
 | ff => exact ⟨by show (0 : Int) ≤ _; decide,fun _ hx => by cases hx⟩
 | nil => exact ⟨by show (0 : Int) ≤ _; decide,fun _ hx => by cases hx⟩
 | name s h0 => exact ⟨by show (0 : Int) ≤ _; decide,fun _ hx => by cases hx⟩
 | lit s ks h0 hx => exact ⟨by show (0 : Int) ≤ _; decide,fun k h => I.exp k (hx k h) (hl2 k h) (hb2 k h)⟩
 | list x ks hx hx2 => exact ⟨by show (0 : Int) ≤ _; decide,al_cons (nm_typ n x hx (hl2 x (by simp [Tr.kids]))) (fun k h => I.exp k (hx2 k h) (hl2 k (List.mem_cons_of_mem _ h)) (hb2 k (List.mem_cons_of_mem _ h)))⟩
 | func x y hx hy => exact ⟨by show (0 : Int) ≤ _; decide,al_cons (nm_sig hx (hl2 x (by simp [Tr.kids]))) (al_one (I.blk y hy (hl2 y (by simp [Tr.kids])) (hb2 y (by simp [Tr.kids]))))⟩
 | una s x h0 hx => exact ⟨by show (0 : Int) ≤ _; decide,al_one (I.exp x hx (hl2 x (by simp [Tr.kids])) (hb2 x (by simp [Tr.kids])))⟩
 | bin s x y h0 hx hy => exact ⟨by show (0 : Int) ≤ _; decide,al_cons (I.exp x hx (hl2 x (by simp [Tr.kids])) (hb2 x (by simp [Tr.kids]))) (al_one (I.exp y hy (hl2 y (by simp [Tr.kids])) (hb2 y (by simp [Tr.kids]))))⟩
 | sel s x h0 hx => exact ⟨by show (0 : Int) ≤ _; decide,al_one (I.exp x hx (hl2 x (by simp [Tr.kids])) (hb2 x (by simp [Tr.kids])))⟩
 | index x y hx hy => exact ⟨by show (0 : Int) ≤ _; decide,al_cons (I.exp x hx (hl2 x (by simp [Tr.kids])) (hb2 x (by simp [Tr.kids]))) (al_one (I.exp y hy (hl2 y (by simp [Tr.kids])) (hb2 y (by simp [Tr.kids]))))⟩
 | cut0 x hx => exact ⟨by show (0 : Int) ≤ _; decide,al_one (I.exp x hx (hl2 x (by simp [Tr.kids])) (hb2 x (by simp [Tr.kids])))⟩
 | cut1 x y hx hy => exact ⟨by show (1 : Int) ≤ _; decide,al_cons (I.exp x hx (hl2 x (by simp [Tr.kids])) (hb2 x (by simp [Tr.kids]))) (al_one (I.exp y hy (hl2 y (by simp [Tr.kids])) (hb2 y (by simp [Tr.kids]))))⟩
 | cut2 x y hx hy => exact ⟨by show (2 : Int) ≤ _; decide,al_cons (I.exp x hx (hl2 x (by simp [Tr.kids])) (hb2 x (by simp [Tr.kids]))) (al_one (I.exp y hy (hl2 y (by simp [Tr.kids])) (hb2 y (by simp [Tr.kids]))))⟩
 | cut3 x y z hx hy hz => exact ⟨by show (3 : Int) ≤ _; decide,al_cons (I.exp x hx (hl2 x (by simp [Tr.kids])) (hb2 x (by simp [Tr.kids]))) (al_cons (I.exp y hy (hl2 y (by simp [Tr.kids])) (hb2 y (by simp [Tr.kids]))) (al_one (I.exp z hz (hl2 z (by simp [Tr.kids])) (hb2 z (by simp [Tr.kids])))))⟩
 | call x ks hx hx2 => exact ⟨by show (0 : Int) ≤ _; decide,al_cons (I.exp x hx (hl2 x (by simp [Tr.kids])) (hb2 x (by simp [Tr.kids]))) (fun k h => I.exp k (hx2 k h) (hl2 k (List.mem_cons_of_mem _ h)) (hb2 k (List.mem_cons_of_mem _ h)))⟩
theorem nm_stm (I : NmAll n) (t : Tr) (h : stmB (snd n) t = true) (hl : Lim (n + 1) t) (hb : Nb (n + 1) t) : nmT (n + 1) t:=by
 have hc:=stm_cases h
 have hl1:=hl.1
 have hl2:=hl.2
 have hb2:=hb.2
 clear h hl hb
 cases hc with
 | blk ks hx => exact ⟨by show (0 : Int) ≤ _; decide,fun k h => I.stm k (hx k h) (hl2 k h) (hb2 k h)⟩
 | if2 x y hx hy => exact ⟨by show (0 : Int) ≤ _; decide,al_cons (I.exp x hx (hl2 x (by simp [Tr.kids])) (hb2 x (by simp [Tr.kids]))) (al_one (I.blk y hy (hl2 y (by simp [Tr.kids])) (hb2 y (by simp [Tr.kids]))))⟩
 | if3 x y z hx hy hz => exact ⟨by show (0 : Int) ≤ _; decide,al_cons (I.exp x hx (hl2 x (by simp [Tr.kids])) (hb2 x (by simp [Tr.kids]))) (al_cons (I.blk y hy (hl2 y (by simp [Tr.kids])) (hb2 y (by simp [Tr.kids]))) (al_one (I.els z hz (hl2 z (by simp [Tr.kids])) (hb2 z (by simp [Tr.kids])))))⟩
 | var1 s x h0 hx => exact ⟨by show (0 : Int) ≤ _; decide,al_one (nm_typ n x hx (hl2 x (by simp [Tr.kids])))⟩
 | var2 s x y h0 hx hy => exact ⟨by show (0 : Int) ≤ _; decide,al_cons (nm_typ n x hx (hl2 x (by simp [Tr.kids]))) (al_one (I.exp y hy (hl2 y (by simp [Tr.kids])) (hb2 y (by simp [Tr.kids]))))⟩
 | defn a b ha hb hp hx => exact ⟨by show (a.length : Int) ≤ _; simp only [Tr.kids,List.length_append] at hl1; omega,fun k h => I.exp k (hx k h) (hl2 k h) (hb2 k h)⟩
 | asgn a b ha hb hp hx => exact ⟨by show (a.length : Int) ≤ _; simp only [Tr.kids,List.length_append] at hl1; omega,fun k h => I.exp k (hx k h) (hl2 k h) (hb2 k h)⟩
 | call x h0 hx => exact ⟨by show (0 : Int) ≤ _; decide,al_one (I.exp x hx (hl2 x (by simp [Tr.kids])) (hb2 x (by simp [Tr.kids])))⟩
 | for1 y hy => exact ⟨by show (0 : Int) ≤ _; decide,al_one (I.blk y hy (hl2 y (by simp [Tr.kids])) (hb2 y (by simp [Tr.kids])))⟩
 | for2 x y hx hy => exact ⟨by show (0 : Int) ≤ _; decide,al_cons (I.exp x hx (hl2 x (by simp [Tr.kids])) (hb2 x (by simp [Tr.kids]))) (al_one (I.blk y hy (hl2 y (by simp [Tr.kids])) (hb2 y (by simp [Tr.kids]))))⟩
 | ret ks hx => exact ⟨by show (0 : Int) ≤ _; decide,fun k h => I.exp k (hx k h) (hl2 k h) (hb2 k h)⟩
 | brk => exact ⟨by show (0 : Int) ≤ _; decide,fun _ hx => by cases hx⟩
 | nxt => exact ⟨by show (0 : Int) ≤ _; decide,fun _ hx => by cases hx⟩
theorem nm_all : ∀ n,NmAll n
  | 0 => ⟨fun _ h => (by cases h),fun _ h => (by cases h),fun _ h => (by cases h),fun _ h => (by cases h)⟩
  | n + 1 => have I:=nm_all n
    have B : ∀ t,blkB (snd n) t = true → stmB (snd n) t = true:=fun t h => by
     have hk : t.kind = 20:=by simp only [blkB,Bool.and_eq_true,beq_iff_eq] at h; exact h.1
     simp [stmB,hk,h]
    have F : ∀ t,ifB (snd n) t = true → stmB (snd n) t = true:=fun t h => by
     have hk : t.kind = 25:=by simp only [ifB,Bool.and_eq_true,beq_iff_eq] at h; exact h.1
     simp [stmB,hk,h]
    ⟨fun t h hl hb => nm_stm I t (B t h) hl hb,fun t h hl hb => by
     have h' : elsB (snd n) t = true:=h
     simp only [elsB,Bool.or_eq_true] at h'
     rcases h' with h' | h'
     · exact nm_stm I t (B t h') hl hb
     · exact nm_stm I t (F t h') hl hb,fun t h hl hb => nm_stm I t h hl hb,nm_exp I⟩
theorem nm_dec (h : decB n t = true) (hl : Lim (n + 2) t) (hb : Nb (n + 2) t) : nmT (n + 2) t:=by
 obtain ⟨k,s,v,ks⟩:=t
 have hl2:=hl.2
 have hb2:=hb.2
 simp only [Tr.kids] at hl2 hb2
 by_cases e2 : k = 2
 · subst e2
   simp [decB,namedT,Tr.kind,Tr.text,Tr.num,Tr.kids] at h
   refine ⟨by show v ≤ _; omega,fun x hx => ?_⟩
   have:=h.2 x hx
   simp only [fldB,namedT,Bool.and_eq_true,beq_iff_eq] at this
   obtain ⟨y,e,hy⟩:=row1B this.2.2
   refine ⟨by omega,?_⟩
   rw [e]
   exact al_one (nm_typ n y hy ((hl2 x hx).2 y (by simp [e])))
 by_cases e3 : k = 3
 · subst e3
   simp [decB,namedT,Tr.kind,Tr.text,Tr.num,Tr.kids] at h
   refine ⟨by show v ≤ _; omega,fun x hx => ?_⟩
   have:=h.2 x hx
   simp only [metB,namedT,Bool.and_eq_true,beq_iff_eq] at this
   obtain ⟨y,e,hy⟩:=row1B this.2.2
   refine ⟨by omega,?_⟩
   rw [e]
   exact al_one (nm_sig hy ((hl2 x hx).2 y (by simp [e])))
 by_cases e4 : k = 4
 · subst e4
   simp [decB,namedT,Tr.kind,Tr.text,Tr.num,Tr.kids] at h
   obtain ⟨x,y,rfl,hx,hy⟩:=row2B h.2
   exact ⟨by show v ≤ _; omega,al_cons (nm_sig hx (hl2 x (by simp))) (al_one ((nm_all (n + 1)).blk y hy (hl2 y (by simp)) (hb2 y (by simp))))⟩
 by_cases e5 : k = 5
 · subst e5
   simp [decB,namedT,Tr.kind,Tr.text,Tr.num,Tr.kids] at h
   obtain ⟨z,x,y,rfl,hz,hx,hy⟩:=row3B h.2
   simp only [recB,Bool.and_eq_true] at hz
   exact ⟨by show v ≤ _; omega,al_cons (nm_parB hz.1 (hl2 z (by simp))) (al_cons (nm_sig hx (hl2 x (by simp))) (al_one ((nm_all (n + 1)).blk y hy (hl2 y (by simp)) (hb2 y (by simp)))))⟩
 simp [decB,Tr.kind,e2,e3,e4,e5] at h
/-- The numbers of a sound tree whose number leaves are numbers. -/
theorem nm_sound (h : soundT t = true) (hb : Nb 100 t) : nmT 100 t:=by
 simp only [soundT,Bool.and_eq_true] at h
 have hl:=lim_of_small h.1
 have h2:=h.2
 simp only [prgB,bareT,Bool.and_eq_true,beq_iff_eq,List.all_eq_true] at h2
 exact ⟨by omega,fun k hk => nm_dec (h2.2.2 k hk) (hl.2 k hk) (hb.2 k hk)⟩
theorem tokL_num {l : List UInt8} {a e : Nat} {kd : Int} {t : List UInt8} {n : Int} (h : tokL l a = some (kd,t,n,e)) (hk : kd = 2) : n ≤ 9223372036854775807:=by
 subst hk
 unfold tokL at h
 split at h
 · unfold nameL at h
   split at h
   · cases h
   · injection h with h; injection h with h1 h; unfold kindOf at h1; split at h1 <;> cases h1
 · split at h
   · unfold numL at h
     split at h
     · cases h
     · split at h
       · cases h
       · split at h
         · cases h
         · injection h with h; injection h with h1 h; injection h with _ h; injection h with h3 _
           omega
   · split at h
     · unfold textL at h
       split at h
       · injection h with h; injection h with h1 h; cases h1
       · cases h
     · unfold markL at h
       split at h
       · injection h with h; injection h with h1 h; cases h1
       · split at h
         · injection h with h; injection h with h1 h; cases h1
         · cases h
/-- A tree that was read: sound, and its numbers are numbers. -/
theorem parse_good {l : List UInt8} (h : parseP l = (some t,0,0)) : soundT t = true ∧ nmT 100 t:=by
 have hs:=parse_sound h
 obtain ⟨h0,_,_,_,j,hj⟩:=parseP_some h
 refine ⟨hs,nm_sound hs (treeR_nu (fun i hk => ?_) hj 100)⟩
 rcases Nat.lt_or_ge i (scanRes l).1.length with hi | hi
 · have hm : tkA (withEnd (scanRes l).1 l.length) i ∈ (scanRes l).1:=by
    simp [withEnd,tkA,List.getD_eq_getElem?_getD,List.getElem?_append_left hi,List.getElem?_eq_getElem hi]
   obtain ⟨_,e,he⟩:=run_mem _ _ (scan_run h0) _ hm
   exact tokL_num he hk
 · exfalso
   rcases Nat.eq_or_lt_of_le hi with e | e
   · have : tkA (withEnd (scanRes l).1 l.length) i = (4,[],0,l.length):=by rw [← e]; simp [withEnd,tkA,List.getD_eq_getElem?_getD]
     simp [kindA,this] at hk
   · have : tkA (withEnd (scanRes l).1 l.length) i = (0,[],0,0):=by
      unfold tkA
      rw [List.getD_eq_getElem?_getD,List.getElem?_eq_none (by simp [withEnd]; omega)]; rfl
     simp [kindA,this] at hk
end
end Go.Proofs.YtffnaknidofobaaGreatDoor
