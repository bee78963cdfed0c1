/- The way through a function, by a stack of what waits: plain. -/
import Derived.Test.YtkdojpnihinpbaaGreatDoorVfCkJo
import Derived.Test.YtkdojpnihinpbaaGreatDoorVfHJo
import Derived.Test.YtkdojpnihinpbaaGreatDoorMpCdJo
namespace Go.Proofs.YtkdojpnihinpbaaGreatDoor
abbrev coAt (f:Fd) (x:Nat):In3:=(f.co[x]?).getD in0
inductive Rc (p:Pg) (f:Fd):Nat→List Int→Prop
  | start:Rc p f 0 []
  | step {x m:Nat} {s b:List Int} {ns:List Int}:Rc p f x s→lookP p f x (coAt f x) s=.ok (b,ns)→(m:Int)∈ns→Rc p f m b
def Put (M:List (Option (List Int))) (b ns:List Int):Prop:=∀ y∈ns,∃ m:Nat,y=(m:Int)∧M[m]?=some (some b)
structure Rn (p:Pg) (f:Fd) (F:Fl):Prop where
  zero:F.ah[0]?=some (some [])
  reach:∀ (x:Nat) (s:List Int),F.ah[x]?=some (some s)→Rc p f x s
  done:∀ (x:Nat) (s:List Int),F.ah[x]?=some (some s)→(F.wt[x]?).getD false=false→∃ b ns,lookP p f x (coAt f x) s=.ok (b,ns)∧Put F.ah b ns
structure Cl (p:Pg) (f:Fd) (M:List (Option (List Int))):Prop where
  len:M.length=f.co.length
  zero:M[0]?=some (some [])
  reach:∀ (x:Nat) (s:List Int),M[x]?=some (some s)→Rc p f x s
  step:∀ (x:Nat) (s:List Int),M[x]?=some (some s)→∃ b ns,lookP p f x (coAt f x) s=.ok (b,ns)∧Put M b ns
section
variable {p:Pg} {f:Fd} {F G:Fl} {M A:List (Option (List Int))} {x:Nat} {s b:List Int}
theorem come_keep (h:comeP F x s=.ok G) {y:Nat} {t:List Int} (hy:F.ah[y]?=some (some t)):G.ah[y]?=some (some t):=by
 unfold comeP at h
 split at h
 · rename_i hn
   cases h
   dsimp only
   rw [List.getElem?_set]
   split
   · rename_i e
     subst e
     rw [hy] at hn
     cases hn
   · exact hy
 · split at h
   · cases h;exact hy
   · cases h
theorem come_put (h:comeP F x s=.ok G) (hx:x<F.ah.length):G.ah[x]?=some (some s):=by
 unfold comeP at h
 split at h
 · cases h
   dsimp only
   rw [List.getElem?_set_self hx]
 · rename_i t ht
   split at h
   · rename_i e
     cases h
     subst e
     cases hq:F.ah[x]? with
     | none=>rw [hq] at ht;cases ht
     | some o =>
      rw [hq] at ht
      cases ht
      rfl
   · cases h
theorem come_old (h:comeP F x s=.ok G) {y:Nat} {t:List Int} (hy:G.ah[y]?=some (some t)):(F.ah[y]?=some (some t)∧(G.wt[y]?=F.wt[y]?∨True))∨(y=x∧t=s):=by
 unfold comeP at h
 split at h
 · cases h
   dsimp only at hy
   rw [List.getElem?_set] at hy
   split at hy
   · rename_i e
     subst e
     split at hy
     · cases hy;exact .inr ⟨rfl,rfl⟩
     · cases hy
   · exact .inl ⟨hy,.inr trivial⟩
 · split at h
   · cases h;exact .inl ⟨hy,.inl rfl⟩
   · cases h
theorem come_wait (h:comeP F x s=.ok G) (hl:F.wt.length=F.ah.length) {y:Nat} {t:List Int} (hy:G.ah[y]?=some (some t)) (hw:(G.wt[y]?).getD false=false):F.ah[y]?=some (some t)∧(F.wt[y]?).getD false=false:=by
 unfold comeP at h
 split at h
 · cases h
   dsimp only at hy hw
   rw [List.getElem?_set] at hy hw
   split at hy
   · rename_i e
     split at hy
     · rename_i hlt
       rw [if_pos e,if_pos (by rw [hl];exact hlt)] at hw
       cases hw
     · cases hy
   · rename_i e
     rw [if_neg e] at hw
     exact ⟨hy,hw⟩
 · split at h
   · cases h;exact ⟨hy,hw⟩
   · cases h
theorem comes_keep:∀ {l:List Int} {F:Fl},comesP s l F=.ok G→∀ {y:Nat} {t:List Int},F.ah[y]?=some (some t)→G.ah[y]?=some (some t)
  | [],F,h,y,t,hy=>by cases h;exact hy
  | z :: r,F,h,y,t,hy=>by
   unfold comesP at h
   cases hc:comeP F z.toNat s with
   | error e=>rw [hc] at h;cases h
   | ok G1=>rw [hc] at h;exact comes_keep h (come_keep hc hy)
theorem come_len (h:comeP F x s=.ok G):G.ah.length=F.ah.length∧G.wt.length=F.wt.length:=by
 unfold comeP at h
 split at h
 · cases h;simp
 · split at h
   · cases h;exact ⟨rfl,rfl⟩
   · cases h
theorem comes_put:∀ {l:List Int} {F:Fl},comesP s l F=.ok G→(∀ y∈l,inB y F.ah.length=true)→Put G.ah s l
  | [],F,h,_=>fun y hy=>by cases hy
  | z :: r,F,h,hin=>by
   unfold comesP at h
   obtain ⟨m,hm,hlt⟩:=in_nat (hin z (by simp))
   subst hm
   rw [Int.toNat_natCast] at h
   cases hc:comeP F m s with
   | error e=>rw [hc] at h;cases h
   | ok G1 =>
    rw [hc] at h
    have h1:=come_len hc
    intro y hy
    rcases List.mem_cons.mp hy with rfl | hy
    · exact ⟨m,rfl,comes_keep h (come_put hc hlt)⟩
    · exact comes_put h (fun z hz=>by rw [h1.1];exact hin z (by simp [hz])) y hy
theorem comes_old:∀ {l:List Int} {F:Fl},comesP s l F=.ok G→(∀ y∈l,inB y F.ah.length=true)→∀ {y:Nat} {t:List Int},G.ah[y]?=some (some t)→F.ah[y]?=some (some t)∨((y:Int)∈l∧t=s)
  | [],F,h,_,y,t,hy=>by cases h;exact .inl hy
  | z :: r,F,h,hin,y,t,hy=>by
   unfold comesP at h
   obtain ⟨m,hm,hlt⟩:=in_nat (hin z (by simp))
   subst hm
   rw [Int.toNat_natCast] at h
   cases hc:comeP F m s with
   | error e=>rw [hc] at h;cases h
   | ok G1 =>
    rw [hc] at h
    rcases comes_old h (fun z hz=>by rw [(come_len hc).1];exact hin z (by simp [hz])) hy with h1 | ⟨h1,h2⟩
    · rcases come_old hc h1 with ⟨h2,_⟩ | ⟨rfl,h3⟩
      · exact .inl h2
      · exact .inr ⟨by simp,h3⟩
    · exact .inr ⟨by simp [h1],h2⟩
theorem comes_wait:∀ {l:List Int} {F:Fl},comesP s l F=.ok G→F.wt.length=F.ah.length→∀ {y:Nat} {t:List Int},G.ah[y]?=some (some t)→(G.wt[y]?).getD false=false→F.ah[y]?=some (some t)∧(F.wt[y]?).getD false=false
  | [],F,h,_,y,t,hy,hw=>by cases h;exact ⟨hy,hw⟩
  | z :: r,F,h,hl,y,t,hy,hw=>by
   unfold comesP at h
   cases hc:comeP F z.toNat s with
   | error e=>rw [hc] at h;cases h
   | ok G1 =>
    rw [hc] at h
    have h1:=come_len hc
    obtain ⟨h2,h3⟩:=comes_wait h (by rw [h1.1,h1.2];exact hl) hy hw
    exact come_wait hc hl h2 h3
theorem Put.keep {ns:List Int} (h:Put M b ns) (hk:∀ (y:Nat) (t:List Int),M[y]?=some (some t)→A[y]?=some (some t)):Put A b ns:=fun y hy=>by
 obtain ⟨m,h1,h2⟩:=h y hy
 exact ⟨m,h1,hk m b h2⟩
theorem look_in {i:In3} {ns:List Int} (h:lookP p f x i s=.ok (b,ns)):∀ y∈ns,inB y f.co.length=true:=by
 unfold lookP at h
 dsimp only at h
 split at h
 · cases h
 · split at h
   · cases h
   · split at h
     · cases h
     · split at h
       · cases h
       · split at h
         · rename_i ha
           cases h
           exact List.all_eq_true.mp ha
         · cases h
theorem step_rn (R:Rn p f F) (la:F.ah.length=f.co.length) (lw:F.wt.length=f.co.length) {t:List Int} (hx:F.ah[x]?=some (some t)) (h:stepP p f x F=.ok G):Rn p f G:=by
 unfold stepP at h
 split at h
 · cases h
 · rename_i b ns hlk
   rw [hx] at hlk
   have hlk2:lookP p f x (coAt f x) t=.ok (b,ns):=hlk
   have hin:∀ y∈ns,inB y F.ah.length=true:=by rw [la];exact look_in hlk2
   refine ⟨comes_keep h R.zero,fun y u hy=>?_,fun y u hy hw=>?_⟩
   · rcases comes_old h hin hy with h1 | ⟨h1,rfl⟩
     · exact R.reach y u h1
     · exact .step (R.reach x t hx) hlk2 h1
   · obtain ⟨h1,h2⟩:=comes_wait h (by simp [la,lw]) hy hw
     by_cases hxy:x=y
     · subst hxy
       have h3:F.ah[x]?=some (some u):=h1
       rw [hx] at h3
       cases h3
       exact ⟨b,ns,hlk2,comes_put h hin⟩
     · have h4:(F.wt[y]?).getD false=false:=by
        dsimp only at h2
        rwa [List.getElem?_set_ne hxy] at h2
       obtain ⟨b2,ns2,h5,h6⟩:=R.done y u h1 h4
       exact ⟨b2,ns2,h5,h6.keep fun z v hz=>comes_keep h hz⟩
theorem leastP_none:∀ {l:List Bool},leastP l=none→∀ y:Nat,(l[y]?).getD false=false
  | [],_,y=>by simp
  | true :: r,h,y=>by cases h
  | false :: r,h,y=>by
   unfold leastP at h
   rw [Option.map_eq_none_iff] at h
   cases y with
   | zero=>rfl
   | succ y=>rw [List.getElem?_cons_succ];exact leastP_none h y
theorem run_rn (H:Hok p) (hf:FdOk p f):∀ {n k:Nat} {F G:Fl},FInv p f k F→MM F≤n→Rn p f F→runP p f n F=.ok G→Cl p f G.ah
  | 0,k,F,G,I,hm,R,h=>by
   cases h
   refine ⟨I.la,R.zero,R.reach,fun x s hx=>R.done x s hx ?_⟩
   cases hw:(F.wt[x]?).getD false with
   | false=>rfl
   | true =>
    exfalso
    have h1:F.wt.count true=0:=by unfold MM at hm;omega
    rw [List.count_eq_zero] at h1
    cases hq:F.wt[x]? with
    | none=>rw [hq] at hw;cases hw
    | some c =>
     rw [hq] at hw
     have:c=true:=hw
     subst this
     exact h1 (List.mem_of_getElem? hq)
  | n+1,k,F,G,I,hm,R,h=>by
   unfold runP at h
   split at h
   · rename_i hl
     cases h
     exact ⟨I.la,R.zero,R.reach,fun x s hx=>R.done x s hx (leastP_none hl x)⟩
   · rename_i y hy
     cases hs:stepP p f y F with
     | error e'=>rw [hs] at h;cases h
     | ok G1 =>
      rw [hs] at h
      obtain ⟨t,ht⟩:=I.wa y (least_inv hy)
      have h1:=step_inv H hf I hy hs
      exact run_rn H hf h1.1 (by have:=h1.2;omega) (step_rn R I.la I.lw ht hs) h
theorem follow_cl (H:Hok p) (hf:FdOk p f) {F:Fl} (h:followP p f=.ok F):Cl p f F.ah:=by
 obtain ⟨h1,h2⟩:=fl0_inv (p:=p) (f:=f) hf.co
 have hc:=hf.co
 refine run_rn H hf h1 (by omega) ⟨?_,fun x s hx=>?_,fun x s hx hw=>?_⟩ h
 · unfold fl0
   dsimp only
   rw [List.getElem?_set_self (by simpa using hc)]
 · unfold fl0 at hx
   dsimp only at hx
   rw [List.getElem?_set] at hx
   split at hx
   · rename_i e
     subst e
     split at hx
     · cases hx;exact .start
     · cases hx
   · rw [List.getElem?_replicate] at hx
     split at hx <;> cases hx
 · exfalso
   unfold fl0 at hx hw
   dsimp only at hx hw
   rw [List.getElem?_set] at hx hw
   split at hx
   · rename_i e
     rw [if_pos e,if_pos (by simpa using hc)] at hw
     cases hw
   · rw [List.getElem?_replicate] at hx
     split at hx <;> cases hx
structure Df (p:Pg) (f:Fd) (M A:List (Option (List Int))) (ws:List Nat) (x:Option Nat) (b:List Int) (dn:List Int):Prop where
  len:A.length=f.co.length
  zero:A[0]?=some (some [])
  sub:∀ (y:Nat) (t:List Int),A[y]?=some (some t)→M[y]?=some (some t)
  wt:∀ y∈ws,∃ t,A[y]?=some (some t)
  done:∀ (y:Nat) (t:List Int),A[y]?=some (some t)→y∈ws∨x=some y∨∀ c ns,lookP p f y (coAt f y) t=.ok (c,ns)→Put A c ns
  part:Put A b dn
def Ms (A:List (Option (List Int))) (ws:List Nat):Nat:=2*A.countP Option.isNone+ws.length
theorem Df.start (C:Cl p f M) (hc:0<f.co.length):Df p f M ((List.replicate f.co.length none).set 0 (some [])) [0] none [] []∧Ms ((List.replicate f.co.length none).set 0 (some [])) [0]≤2*f.co.length:=by
 have h0:∀ (y:Nat) (t:List Int),((List.replicate f.co.length (none:Option (List Int))).set 0 (some []))[y]?=some (some t)→y=0∧t=[]:=fun y t hy=>by
  rw [List.getElem?_set] at hy
  split at hy
  · rename_i e
    split at hy
    · cases hy;exact ⟨e.symm,rfl⟩
    · cases hy
  · rw [List.getElem?_replicate] at hy
    split at hy <;> cases hy
 refine ⟨⟨by simp,by rw [List.getElem?_set_self (by simpa using hc)],fun y t hy=>?_,fun y hy=>?_,fun y t hy=>?_,fun y hy=>by cases hy⟩,?_⟩
 · obtain ⟨rfl,rfl⟩:=h0 y t hy
   exact C.zero
 · simp at hy
   subst hy
   exact ⟨[],by rw [List.getElem?_set_self (by simpa using hc)]⟩
 · obtain ⟨rfl,_⟩:=h0 y t hy
   exact .inl (by simp)
 · have h1:(List.replicate f.co.length (none:Option (List Int))).countP Option.isNone=f.co.length:=by rw [List.countP_replicate];rfl
   unfold Ms
   rw [List.countP_set (by simpa using hc),h1]
   simp
   omega
theorem Df.fin (C:Cl p f M) (D:Df p f M A [] none b []):A=M:=by
 have h1:∀ (y:Nat) (t:List Int),Rc p f y t→A[y]?=some (some t):=fun y t h=>by
  induction h with
  | start=>exact D.zero
  | step h1 h2 h3 ih =>
   rcases D.done _ _ ih with h4 | h4 | h4
   · cases h4
   · cases h4
   · obtain ⟨m,h6,h7⟩:=h4 _ _ h2 _ h3
     obtain rfl:=Int.ofNat.inj h6
     exact h7
 apply List.ext_getElem?
 intro y
 rcases Nat.lt_or_ge y f.co.length with hy | hy
 · obtain ⟨o,ho⟩ : ∃ o,A[y]?=some o:=⟨A[y]'(by rw [D.len];exact hy),by simp⟩
   obtain ⟨q,hq⟩ : ∃ q,M[y]?=some q:=⟨M[y]'(by rw [C.len];exact hy),by simp⟩
   cases o with
   | some t=>rw [ho,D.sub y t ho]
   | none =>
    cases q with
    | none=>rw [ho,hq]
    | some t =>
     have:=h1 y t (C.reach y t hq)
     rw [ho] at this
     cases this
 · rw [List.getElem?_eq_none (by rw [D.len];exact hy),List.getElem?_eq_none (by rw [C.len];exact hy)]
theorem Df.take {ws:List Nat} (C:Cl p f M) (D:Df p f M A (ws++[x]) none b []):∃ t c ns,A[x]?=some (some t)∧M[x]?=some (some t)∧lookP p f x (coAt f x) t=.ok (c,ns)∧Put M c ns∧Df p f M A ws (some x) c []∧Ms A (ws++[x])=Ms A ws+1:=by
 obtain ⟨t,ht⟩:=D.wt x (by simp)
 obtain ⟨c,ns,h1,h2⟩:=C.step x t (D.sub x t ht)
 refine ⟨t,c,ns,ht,D.sub x t ht,h1,h2,⟨D.len,D.zero,D.sub,fun y hy=>D.wt y (by simp [hy]),fun y u hy=>?_,fun y hy=>by cases hy⟩,by unfold Ms;simp;omega⟩
 rcases D.done y u hy with h | h | h
 · rcases List.mem_append.mp h with h | h
   · exact .inl h
   · simp at h
     exact .inr (.inl (by rw [h]))
 · cases h
 · exact .inr (.inr h)
theorem Df.seen {ws:List Nat} {q:Option Nat} {dn:List Int} {m:Nat} {u:List Int} (D:Df p f M A ws q b dn) (hM:M[m]?=some (some b)) (hm:A[m]?=some (some u)):Df p f M A ws q b (dn++[(m:Int)]):=by
 refine ⟨D.len,D.zero,D.sub,D.wt,D.done,fun y hy=>?_⟩
 rcases List.mem_append.mp hy with h | h
 · exact D.part y h
 · simp at h
   have:=D.sub m u hm
   rw [hM] at this
   cases this
   exact ⟨m,h,hm⟩
theorem Df.new {ws:List Nat} {q:Option Nat} {dn:List Int} {m:Nat} (D:Df p f M A ws q b dn) (hM:M[m]?=some (some b)) (hm:A[m]?=some none):Df p f M (A.set m (some b)) (ws++[m]) q b (dn++[(m:Int)])∧Ms (A.set m (some b)) (ws++[m])+1=Ms A ws:=by
 have hlt:m<A.length:=get_lt hm
 have hkeep:∀ (y:Nat) (t:List Int),A[y]?=some (some t)→(A.set m (some b))[y]?=some (some t):=fun y t hy=>by
  rw [List.getElem?_set]
  split
  · rename_i e
    subst e
    rw [hm] at hy
    cases hy
  · exact hy
 have hnew:(A.set m (some b))[m]?=some (some b):=by rw [List.getElem?_set_self hlt]
 have hold:∀ (y:Nat) (t:List Int),(A.set m (some b))[y]?=some (some t)→A[y]?=some (some t)∨(y=m∧t=b):=fun y t hy=>by
  rw [List.getElem?_set] at hy
  split at hy
  · rename_i e
    cases hy;exact .inr ⟨e.symm,rfl⟩
  · exact .inl hy
 refine ⟨⟨by rw [List.length_set];exact D.len,hkeep _ _ D.zero,fun y t hy=>?_,fun y hy=>?_,fun y t hy=>?_,fun y hy=>?_⟩,?_⟩
 · rcases hold y t hy with h | ⟨rfl,rfl⟩
   · exact D.sub y t h
   · exact hM
 · rcases List.mem_append.mp hy with h | h
   · obtain ⟨t,ht⟩:=D.wt y h
     exact ⟨t,hkeep y t ht⟩
   · simp at h
     subst h
     exact ⟨b,hnew⟩
 · rcases hold y t hy with h | ⟨rfl,rfl⟩
   · rcases D.done y t h with h | h | h
     · exact .inl (by simp [h])
     · exact .inr (.inl h)
     · exact .inr (.inr fun c ns hc=>(h c ns hc).keep hkeep)
   · exact .inl (by simp)
 · rcases List.mem_append.mp hy with h | h
   · obtain ⟨k,h1,h2⟩:=D.part y h
     exact ⟨k,h1,hkeep k _ h2⟩
   · simp at h
     exact ⟨m,h,hnew⟩
 · unfold Ms
   rw [List.countP_set hlt]
   have he:A[m]=none:=by rw [List.getElem?_eq_getElem hlt] at hm;exact Option.some.inj hm
   have h1:0<A.countP Option.isNone:=List.countP_pos_iff.mpr ⟨none,by rw [← he];exact List.getElem_mem hlt,rfl⟩
   rw [he]
   simp
   omega
theorem Df.back {ws:List Nat} {c ns:List Int} {t:List Int} (D:Df p f M A ws (some x) c ns) (hx:A[x]?=some (some t)) (h:lookP p f x (coAt f x) t=.ok (c,ns)):Df p f M A ws none [] []:=by
 refine ⟨D.len,D.zero,D.sub,D.wt,fun y u hy=>?_,fun y hy=>by cases hy⟩
 rcases D.done y u hy with h1 | h1 | h1
 · exact .inl h1
 · cases h1
   rw [hx] at hy
   cases hy
   refine .inr (.inr fun c2 ns2 h2=>?_)
   rw [h] at h2
   cases h2
   exact D.part
 · exact .inr (.inr h1)
end
end Go.Proofs.YtkdojpnihinpbaaGreatDoor

namespace Go.Proofs.YtkdojpnihinpbaaGreatDoor
open Go.RowKit
section
variable {w:World}
theorem nextm_any (w:World) {x:Nat} (hx:x≤65536) (i:In3):Calls Tryz.prog 20 #[.agg #[.int .i64 i.o,.int .i64 i.a,.int .i64 i.b],.int .i64 x] w (NwO w (nextsP i x)):=by
 have hw:IntKind.i64.wrap ((x:Int)+1)=(x:Int)+1:=by
  rw [show (x:Int)+1=((x+1:Nat):Int) by omega]
  exact wrap_nat (by omega)
 have HK:=hide (show ∀ (W1 W:World) (ks:List Int) (T:TypeId) (g n:Nat) (C:Array Value),Below w.heap.size w W1→w.heap.size≤W1.heap.size→W1.alloc (.cells C T)=W→C=(ks.map (Value.int .i64)).toArray→g=W1.heap.size→n=ks.length→ks.length≤4096→NwO w ks (.returned (.slice (some ⟨g,0,none⟩) n n)) W from fun W1 W ks T g n C hb hs hW hC hg hn hl=>by
  subst hW
  subst hC
  subst hg
  subst hn
  exact ⟨_,rfl,isAt_new (heap_new _ _ rfl) (by omega) hl,hb.alloc hs _⟩)
 clear hx
 by_cases h9:i.o=9
 · have HE:=hide (show nextsP i x=[i.a] by unfold nextsP;rw [if_pos h9])
   have q9:(i.o == 9)=true:=by simpa using h9
   clear h9
   go_enter Tryz.func20,Tryz.ntmps20
   go_wp2
   go_ret
   rw [HE.out]
   exact HK.out (w.alloc (.cells #[.int .i64 i.o,.int .i64 i.a,.int .i64 i.b] 46)) _ [i.a] _ (w.heap.size+1) 1 _ ((Below.refl _ _).alloc (Nat.le_refl _) _) (by simp) rfl rfl (by simp) rfl (by simp)
 · have q9:(i.o == 9)=false:=by simpa using h9
   by_cases h10:i.o=10
   · have HE:=hide (show nextsP i x=[(x:Int)+1,i.a] by unfold nextsP;rw [if_neg h9,if_pos h10])
     have q10:(i.o == 10)=true:=by simpa using h10
     clear h9 h10
     go_enter Tryz.func20,Tryz.ntmps20
     go_wp2
     go_ret
     rw [HE.out]
     exact HK.out (w.alloc (.cells #[.int .i64 i.o,.int .i64 i.a,.int .i64 i.b] 46)) _ [(x:Int)+1,i.a] _ (w.heap.size+1) 2 _ ((Below.refl _ _).alloc (Nat.le_refl _) _) (by simp) rfl rfl (by simp) rfl (by simp)
   · have q10:(i.o == 10)=false:=by simpa using h10
     by_cases hr:i.o=24∨i.o=27∨i.o=28
     · have HE:=hide (show nextsP i x=[] by unfold nextsP;rw [if_neg h9,if_neg h10,if_pos hr])
       have HF:=hide (show NwO w [] (.returned (.slice none 0 0)) (w.alloc (.cells #[.int .i64 i.o,.int .i64 i.a,.int .i64 i.b] 46)) from ⟨_,rfl,isAt_none,(Below.refl _ _).alloc (Nat.le_refl _) _⟩)
       rcases hr with h | h | h
       all_goals (
         have r24:(i.o == 24)=decide (i.o=24):=rfl
         rw [h] at HF q9 q10 ⊢
         clear h9 h10 h
         go_enter Tryz.func20,Tryz.ntmps20
         go_wp2
         go_ret
         rw [HE.out]
         exact HF.out)
     · have HE:=hide (show nextsP i x=[(x:Int)+1] by unfold nextsP;rw [if_neg h9,if_neg h10,if_neg hr])
       have q24:(i.o == 24)=false:=by simp;omega
       have q27:(i.o == 27)=false:=by simp;omega
       have q28:(i.o == 28)=false:=by simp;omega
       clear h9 h10 hr
       go_enter Tryz.func20,Tryz.ntmps20
       go_wp2
       go_ret
       rw [HE.out]
       exact HK.out (w.alloc (.cells #[.int .i64 i.o,.int .i64 i.a,.int .i64 i.b] 46)) _ [(x:Int)+1] _ (w.heap.size+1) 1 _ ((Below.refl _ _).alloc (Nat.le_refl _) _) (by simp) rfl rfl (by simp) rfl (by simp)
def safeB (o:Int):Bool:=decide (o=11∨o=12∨o=19∨o=29∨o=22∨o=23)
theorem safe_any (w:World) (o:Int):Calls Tryz.prog 10 #[.int .i64 o] w fun e w'=>e=.returned (.bool (safeB o))∧w' = w:=by
 by_cases h11:o=11
 · subst h11;go_enter Tryz.func10,Tryz.ntmps10;go_wp2;go_ret;exact ⟨rfl,rfl⟩
 by_cases h12:o=12
 · subst h12;go_enter Tryz.func10,Tryz.ntmps10;go_wp2;go_ret;exact ⟨rfl,rfl⟩
 by_cases h19:o=19
 · subst h19;go_enter Tryz.func10,Tryz.ntmps10;go_wp2;go_ret;exact ⟨rfl,rfl⟩
 by_cases h29:o=29
 · subst h29;go_enter Tryz.func10,Tryz.ntmps10;go_wp2;go_ret;exact ⟨rfl,rfl⟩
 by_cases h22:o=22
 · subst h22;go_enter Tryz.func10,Tryz.ntmps10;go_wp2;go_ret;exact ⟨rfl,rfl⟩
 by_cases h23:o=23
 · subst h23;go_enter Tryz.func10,Tryz.ntmps10;go_wp2;go_ret;exact ⟨rfl,rfl⟩
 have HE:=hide (show safeB o=false by simp [safeB,h11,h12,h19,h29,h22,h23])
 have q11:(o == 11)=false:=by simpa using h11
 have q12:(o == 12)=false:=by simpa using h12
 have q19:(o == 19)=false:=by simpa using h19
 have q29:(o == 29)=false:=by simpa using h29
 have q22:(o == 22)=false:=by simpa using h22
 have q23:(o == 23)=false:=by simpa using h23
 clear h11 h12 h19 h29 h22 h23
 go_enter Tryz.func10,Tryz.ntmps10
 go_wp2
 go_ret
 exact ⟨by rw [HE.out];rfl,rfl⟩
end
end Go.Proofs.YtkdojpnihinpbaaGreatDoor

namespace Go.Proofs.YtkdojpnihinpbaaGreatDoor
open Go.RowKit
def Xw (ahb:Nat) (v:Value) (j:Nat):Prop:=j=ahb∨v.ownBlock=some j
abbrev wsV (ws:List Nat):List Value:=ws.map fun x:Nat=>Value.int .i64 (x:Int)
structure AdM (E ahb D n:Nat) (w5 W:World) (A:List (Option (List Int))) (v:Value) (ws:List Nat):Prop where
  ah:AhAt (Xw ahb v) E W ahb n A
  row:W.ownsRow D 3 1 v ws.length (wsV ws)
  kp:Kp (fun j=>j=ahb∨D≤j) w5 W
  lo:ahb<D
  le:D≤W.heap.size
section
variable {E ahb D n:Nat} {w5 W W' : World} {A:List (Option (List Int))} {v v' : Value} {ws:List Nat} {b:Nat} {s:List Int}
theorem own_lt {D n:Nat} {xs:List Value} (h:W.ownsRow D 3 1 v n xs) {j:Nat} (hj:v.ownBlock=some j):D≤j∧j<W.heap.size:=by
 rcases h.2 with ⟨rfl,_⟩ | ⟨g,cap,cur,rfl,h1,h2,_⟩
 · cases hj
 · cases hj;exact ⟨h1,lt_of_block h2⟩
theorem AdM.ahlt (M:AdM E ahb D n w5 W A v ws):ahb<W.heap.size:=by
 obtain ⟨_,cs,_,h,_⟩:=M.ah
 exact lt_of_block h
theorem AdM.xlt (M:AdM E ahb D n w5 W A v ws) {B:Nat} (h1:B≤ahb) (h2:B≤D) {j:Nat} (h:Xw ahb v j):B≤j∧j<W.heap.size:=by
 rcases h with rfl | h
 · exact ⟨h1,M.ahlt⟩
 · have:=own_lt M.row h
   omega
theorem AdM.below (M:AdM E ahb D n w5 W A v ws) (h:Below W.heap.size W W'):AdM E ahb D n w5 W' A v ws :=
  ⟨M.ah.keep (Kp.of_below h) (h.block _ M.ahlt),ownsRow_keep M.row (fun q hq=>h.block q (own_lt M.row hq).2),M.kp.trans (Kp.of_below h),M.lo,Nat.le_trans M.le h.size⟩
theorem AdM.cell (M:AdM E ahb D n w5 W A v ws) {x:Nat} {o:Option (List Int)} (ho:A[x]?=some o):∃ c,W.cell? ⟨ahb,x,none⟩=some c∧W.frozen? ⟨ahb,x,none⟩=false∧AhC (Xw ahb v) E W o c:=by
 obtain ⟨_,cs,h2,h3,h4⟩:=M.ah
 obtain ⟨c,c1,c2⟩:=h4 x o ho
 exact ⟨c,cell_of h3 (by simpa using c1),by simp [World.frozen?,h3],c2⟩
theorem AdM.pop {x:Nat} (M:AdM E ahb D n w5 W A v (ws++[x])):∃ g cap,v=.slice (some ⟨g,0,none⟩) (ws.length+1) cap∧g<W.heap.size∧ws.length+1≤cap∧W.cell? ⟨g,ws.length,none⟩=some (.int .i64 (x:Int))∧AdM E ahb D n w5 W A (.slice (some ⟨g,0,none⟩) ws.length cap) ws:=by
 have hr:=M.row
 rw [List.length_append,List.length_singleton] at hr
 rcases hr.2 with ⟨_,h⟩ | ⟨g,cap,cur,rfl,h1,h2,h3,h4,h5,h6⟩
 · omega
 · refine ⟨g,cap,rfl,lt_of_block h2,h3,?_,⟨M.ah,⟨by simp,.inr ⟨g,cap,cur,rfl,h1,h2,by omega,h4,h5,?_⟩⟩,M.kp,M.lo,M.le⟩⟩
   · refine cell_of h2 ?_
     have h7:(cur.toList.take ((ws.length+1)*1))[ws.length]?=some (.int .i64 (x:Int)):=by rw [h6];simp
     rw [List.getElem?_take,if_pos (by omega),Array.getElem?_toList] at h7
     exact h7
   · have h8:=congrArg (List.take ws.length) h6
     rw [List.take_take,Nat.mul_one,Nat.min_eq_left (by omega)] at h8
     rw [Nat.mul_one,h8]
     simp
theorem AdM.put {x:Nat} (M:AdM E ahb D n w5 W A v ws) (P:PileAt (Xw ahb v) W E b s) (hx:x<n) (hW:W.setCell ⟨ahb,x,none⟩ (pp b)=W'):AdM E ahb D n w5 W' (A.set x (some s)) v ws:=by
 have hk:∀ j,j≠ahb→W'.heap[j]?=W.heap[j]?:=fun j hj=>by rw [← hW];exact Below.heap_setCell _ _ _ j hj
 refine ⟨M.ah.put (.inl rfl) hx P hW,ownsRow_keep M.row (fun q hq=>hk q (by have:=own_lt M.row hq;have:=M.lo;omega)),M.kp.trans (Kp.set (.inl rfl) hW),M.lo,?_⟩
 rw [← hW,World.size_setCell]
 exact M.le
theorem pile_up {g:Nat} (P:PileAt (Xw ahb v) W E b s) (hg:W.grownBy W' v.ownBlock) (hv:v.ownBlock=some g∨g=W.heap.size) (hv' : v'.ownBlock=some g):PileAt (Xw ahb v') W' E b s:=by
 have K:Kp (fun j=>Xw ahb v j∨W.heap.size≤j) W W':=⟨hg.os,hg.tape,hg.output,hg.size,fun j hj hx=>hg.block j hj (fun h=>hx (.inl (.inr h.symm)))⟩
 have h1:PileAt (fun j=>Xw ahb v j∨W.heap.size≤j) W E b s:=P.sub fun j hj h=>h.elim id (fun h=>by omega)
 refine (h1.keep K).sub fun j _ h=>?_
 rcases h with h | h
 · exact .inl (.inl h)
 · rw [hv'] at h
   cases h
   rcases hv with h | h
   · exact .inl (.inr h)
   · exact .inr (Nat.le_of_eq h.symm)
theorem is_up {g:Nat} {u:Value} {ks:List Int} (P:IsAt (Xw ahb v) W u ks) (hg:W.grownBy W' v.ownBlock) (hv:v.ownBlock=some g∨g=W.heap.size) (hv' : v'.ownBlock=some g):IsAt (Xw ahb v') W' u ks:=by
 have K:Kp (fun j=>Xw ahb v j∨W.heap.size≤j) W W':=⟨hg.os,hg.tape,hg.output,hg.size,fun j hj hx=>hg.block j hj (fun h=>hx (.inl (.inr h.symm)))⟩
 have h1:IsAt (fun j=>Xw ahb v j∨W.heap.size≤j) W u ks:=P.sub fun j hj h=>h.elim id (fun h=>by omega)
 refine (h1.keep K).sub fun j _ h=>?_
 rcases h with h | h
 · exact .inl (.inl h)
 · rw [hv'] at h
   cases h
   rcases hv with h | h
   · exact .inl (.inr h)
   · exact .inr (Nat.le_of_eq h.symm)
theorem ah_up {g:Nat} (P:AhAt (Xw ahb v) E W ahb n A) (hne:v.ownBlock≠some ahb) (hg:W.grownBy W' v.ownBlock) (hv:v.ownBlock=some g∨g=W.heap.size) (hv' : v'.ownBlock=some g):AhAt (Xw ahb v') E W' ahb n A:=by
 obtain ⟨h1,cs,h2,h3,h4⟩:=P
 refine ⟨h1,cs,h2,(hg.block ahb (lt_of_block h3) (fun h=>hne h.symm)).trans h3,fun x o ho=>?_⟩
 obtain ⟨c,c1,c2⟩:=h4 x o ho
 refine ⟨c,c1,?_⟩
 cases o with
 | none=>exact c2
 | some t =>
  obtain ⟨b,e1,e2⟩:=c2
  exact ⟨b,e1,pile_up e2 hg hv hv'⟩
theorem AdM.push {x:Nat} (M:AdM E ahb D n w5 W A v ws) (hm:ws.length<1000000) (hb:W.heap[b]?=some (.cells #[.int .i64 (x:Int)] 3 (0,0))) :
    ∃ g cap W',(Builtin.append_ #[37,37] 37 #[v,.slice (some ⟨b,0,none⟩) 1 1]).run Tryz.prog W=.ok (.slice (some ⟨g,0,none⟩) (ws.length+1) cap) W'∧AdM E ahb D n w5 W' A (.slice (some ⟨g,0,none⟩) (ws.length+1) cap) (ws++[x])∧W.grownBy W' v.ownBlock∧(v.ownBlock=some g∨g=W.heap.size):=by
  obtain ⟨g,cap,W',hrun,hown,hgrow,hg,hgl⟩:=run_app1 M.row hb (by omega) M.le
  refine ⟨g,cap,W',hrun,⟨?_,?_,?_,M.lo,Nat.le_trans M.le hgrow.size⟩,hgrow,hg⟩
  · exact ah_up M.ah (fun h=>by have:=own_lt M.row h;have:=M.lo;omega) hgrow hg rfl
  · rw [List.length_append,List.length_singleton]
    simpa [wsV] using hown
  · refine M.kp.trans ⟨hgrow.os,hgrow.tape,hgrow.output,hgrow.size,fun j hj hx=>hgrow.block j hj (fun h=>?_)⟩
    have:=own_lt M.row h.symm
    exact hx (.inr this.1)
end
end Go.Proofs.YtkdojpnihinpbaaGreatDoor
