/- The way through a function: plain. -/
import Derived.Test.YtkdojpnihinpbaaGreatDoorVfLJo
namespace Go.Proofs.YtkdojpnihinpbaaGreatDoor
def MM (F:Fl):Nat:=F.ah.countP Option.isNone+F.wt.count true
structure FInv (p:Pg) (f:Fd) (k:Nat) (F:Fl):Prop where
  la:F.ah.length=f.co.length
  lw:F.wt.length=f.co.length
  st:∀ (y:Nat) (t:List Int),F.ah[y]?=some (some t)→(∀ k∈t,isKB p.ty.length k=true)∧t.length≤4096*k
  mo:F.mo≤4096*k
  wa:∀ y:Nat,(F.wt[y]?).getD false=true→∃ t,F.ah[y]?=some (some t)
section
variable {p:Pg} {f:Fd} {k x:Nat} {F G:Fl} {s:List Int}
theorem step_lk (i:In3) (hi:(f.co[x]?).getD in0=i) (hs:((F.ah[x]?).getD none).getD []=s):stepP p f x F=lkR p f x i s { F with wt:=F.wt.set x false }:=by
 subst hi hs
 rfl
theorem come_inv (h:comeP F x s=.ok G) (I:FInv p f k F) (hx:x<f.co.length) (hk:∀ k∈s,isKB p.ty.length k=true) (hl:s.length≤4096*k):FInv p f k G∧MM G=MM F∧G.mo=F.mo:=by
 unfold comeP at h
 obtain ⟨o,ho⟩ : ∃ o,F.ah[x]?=some o:=⟨F.ah[x]'(by rw [I.la];exact hx),by simp⟩
 rw [ho,Option.getD_some] at h
 cases o with
 | some t =>
  dsimp only at h
  split at h
  · cases h
    exact ⟨I,rfl,rfl⟩
  · cases h
 | none =>
  dsimp only at h
  cases h
  have hxa:x<F.ah.length:=by rw [I.la];exact hx
  have hxw:x<F.wt.length:=by rw [I.lw];exact hx
  have hae:F.ah[x]=none:=by rw [List.getElem?_eq_getElem hxa] at ho;exact Option.some.inj ho
  have hwe:F.wt[x]=false:=by
   cases hw:F.wt[x] with
   | false=>rfl
   | true =>
    obtain ⟨t,ht⟩:=I.wa x (by rw [List.getElem?_eq_getElem hxw,hw];rfl)
    rw [ho] at ht
    cases ht
  refine ⟨⟨by simp [I.la],by simp [I.lw],fun y t ht=>?_,I.mo,fun y hy=>?_⟩,?_,rfl⟩
  · dsimp only at ht
    rw [List.getElem?_set] at ht
    split at ht
    · cases ht;exact ⟨hk,hl⟩
    · exact I.st y t ht
  · dsimp only at hy ⊢
    by_cases hxy:x=y
    · subst hxy
      exact ⟨s,by rw [List.getElem?_set_self hxa]⟩
    · rw [List.getElem?_set_ne hxy] at hy ⊢
      exact I.wa y hy
  · unfold MM
    dsimp only
    rw [List.countP_set hxa,List.count_set hxw,hae,hwe]
    have h1:0<F.ah.countP Option.isNone:=List.countP_pos_iff.mpr ⟨none,by rw [← hae];exact List.getElem_mem hxa,rfl⟩
    simp
    omega
theorem comes_inv:∀ {l:List Int} {F:Fl},comesP s l F=.ok G→FInv p f k F→(∀ y∈l,inB y f.co.length=true)→(∀ k∈s,isKB p.ty.length k=true)→s.length≤4096*k→FInv p f k G∧MM G=MM F∧G.mo=F.mo
  | [],F,h,I,_,_,_=>by
   cases h
   exact ⟨I,rfl,rfl⟩
  | y :: r,F,h,I,hy,hk,hl=>by
   unfold comesP at h
   obtain ⟨m,rfl,hm⟩:=in_nat (hy y (by simp))
   rw [Int.toNat_natCast] at h
   cases hc:comeP F m s with
   | error e=>rw [hc] at h;cases h
   | ok G1 =>
    rw [hc] at h
    obtain ⟨I1,m1,o1⟩:=come_inv hc I hm hk hl
    obtain ⟨I2,m2,o2⟩:=comes_inv h I1 (fun z hz=>hy z (by simp [hz])) hk hl
    exact ⟨I2,m2.trans m1,o2.trans o1⟩
theorem look_kb (H:Hok p) (hf:FdOk p f) {i:In3} {b:List Int} {ns:List Int} (hk:∀ k∈s,isKB p.ty.length k=true) (h:lookP p f x i s=.ok (b,ns)):(∀ k∈b,isKB p.ty.length k=true)∧b.length≤s.length+4096∧∀ y∈ns,inB y f.co.length=true:=by
 unfold lookP at h
 dsimp only at h
 split at h
 · cases h
 · rename_i h1
   rw [Bool.not_eq_false] at h1
   split at h
   · cases h
   · rename_i h2
     split at h
     · cases h
     · rename_i h3
       rw [Bool.not_eq_false] at h3
       split at h
       · cases h
       · rename_i l h4
         split at h
         · rename_i h5
           have hkl:(s.drop (s.length - (takesP p f i).n)).length=(takesP p f i).n:=by rw [List.length_drop];omega
           obtain ⟨p1,p2⟩:=puts_kb H hf h1 (low_ok hkl (fun k hkk=>hk k (List.mem_of_mem_drop hkk)) h3) h4
           cases h
           refine ⟨fun k hkk=>?_,?_,fun y hy=>List.all_eq_true.mp h5 y hy⟩
           · rw [List.mem_append] at hkk
             rcases hkk with hkk | hkk
             · exact hk k (List.mem_of_mem_take hkk)
             · exact p1 k hkk
           · rw [List.length_append,List.length_take]
             omega
         · cases h
theorem step_inv (H:Hok p) (hf:FdOk p f) (I:FInv p f k F) (hw:leastP F.wt=some x) (h:stepP p f x F=.ok G):FInv p f (k+1) G∧MM G+1=MM F:=by
 have hw2:=least_inv hw
 have hxw:x<F.wt.length:=by
  rcases Nat.lt_or_ge x F.wt.length with h1 | h1
  · exact h1
  · rw [List.getElem?_eq_none h1] at hw2;cases hw2
 obtain ⟨t,ht⟩:=I.wa x hw2
 obtain ⟨t1,t2⟩:=I.st x t ht
 have hwe:F.wt[x]=true:=by rw [List.getElem?_eq_getElem hxw] at hw2;exact hw2
 unfold stepP at h
 rw [ht,Option.getD_some,Option.getD_some] at h
 cases hl:lookP p f x ((f.co[x]?).getD in0) t with
 | error e=>rw [hl] at h;cases h
 | ok bn =>
  obtain ⟨b,ns⟩:=bn
  rw [hl] at h
  dsimp only at h
  obtain ⟨l1,l2,l3⟩:=look_kb H hf t1 hl
  have I1:FInv p f (k+1) { F with wt:=F.wt.set x false,mo:=max F.mo b.length }:=by
   refine ⟨I.la,by simp [I.lw],fun y t ht=>?_,?_,fun y hy=>?_⟩
   · obtain ⟨u1,u2⟩:=I.st y t ht
     exact ⟨u1,by omega⟩
   · dsimp only
     have:=I.mo
     omega
   · dsimp only at hy ⊢
     by_cases hxy:x=y
     · subst hxy
       rw [List.getElem?_set_self hxw] at hy
       cases hy
     · rw [List.getElem?_set_ne hxy] at hy
       exact I.wa y hy
  obtain ⟨I2,m2,_⟩:=comes_inv h I1 l3 l1 (by omega)
  refine ⟨I2,?_⟩
  rw [m2]
  unfold MM
  dsimp only
  rw [List.count_set hxw,hwe]
  have h1:0<F.wt.count true:=List.count_pos_iff.mpr (by rw [← hwe];exact List.getElem_mem hxw)
  simp
  omega
theorem fl0_inv (hc:0<f.co.length):FInv p f 0 (fl0 f.co.length)∧MM (fl0 f.co.length)=f.co.length:=by
 have hA:(List.replicate f.co.length (none:Option (List Int))).length=f.co.length:=by simp
 refine ⟨⟨by simp [fl0],by simp [fl0],fun y t ht=>?_,by simp [fl0],fun y hy=>?_⟩,?_⟩
 · unfold fl0 at ht
   dsimp only at ht
   rw [List.getElem?_set] at ht
   split at ht
   · split at ht
     · cases ht;exact ⟨fun k hk=>(by cases hk),by simp⟩
     · cases ht
   · rw [List.getElem?_replicate] at ht
     split at ht <;> cases ht
 · unfold fl0 at hy ⊢
   dsimp only at hy ⊢
   by_cases h0:0=y
   · subst h0
     exact ⟨[],by rw [List.getElem?_set_self (by simpa using hc)]⟩
   · rw [List.getElem?_set_ne h0,List.getElem?_replicate] at hy
     split at hy <;> cases hy
 · unfold MM fl0
   dsimp only
   rw [List.countP_set (by simpa using hc),List.count_set (by simpa using hc)]
   simp [List.countP_replicate,List.count_replicate]
   omega
theorem run_none {n:Nat} (h:leastP F.wt=none):runP p f (n+1) F=.ok F:=by
 unfold runP
 rw [h]
theorem run_some {n:Nat} (h:leastP F.wt=some x):runP p f (n+1) F=match stepP p f x F with
    | .error e=>.error (x,e)
    | .ok G=>runP p f n G:=by
  conv=>lhs;unfold runP
  rw [h]
  rfl
end
end Go.Proofs.YtkdojpnihinpbaaGreatDoor
