/- The document's Size, and the limits by it. -/
import Derived.Test.YtnkphlkjhgngkaaGreatDoorLawAJt
namespace Go.Proofs.YtnkphlkjhgngkaaGreatDoor
open Go.RowKit
attribute [local go_sem ↓] Go.wp_at_zero Go.wp_at_succ
mutual
def cntN : Tr → Nat
  | .mk _ _ _ ks => 1 + cntNL ks
def cntNL : List Tr → Nat
  | [] => 0
  | t :: ts => cntN t + cntNL ts
end
mutual
def depN : Tr → Nat
  | .mk _ _ _ ks => depNL ks + 1
def depNL : List Tr → Nat
  | [] => 0
  | t :: ts => max (depN t) (depNL ts)
end
theorem cntNL_append : ∀ a b,cntNL (a ++ b) = cntNL a + cntNL b
  | [],b => by simp [cntNL]
  | t :: a,b => by simp only [List.cons_append,cntNL,cntNL_append a b]; omega
theorem depNL_append : ∀ a b,depNL (a ++ b) = max (depNL a) (depNL b)
  | [],b => by simp [depNL]
  | t :: a,b => by simp only [List.cons_append,depNL,depNL_append a b]; omega
theorem cntNL_len : ∀ ts : List Tr,ts.length ≤ cntNL ts
  | [] => Nat.le_refl _
  | .mk _ _ _ ks :: ts => by simp only [cntNL,cntN,List.length_cons]; have:=cntNL_len ts; omega
theorem cntNL_mem : ∀ {ts : List Tr} {t : Tr},t ∈ ts → cntN t ≤ cntNL ts
  | u :: ts,t,h => by
   rcases List.mem_cons.1 h with rfl | h
   · simp only [cntNL]; omega
   · have:=cntNL_mem h; simp only [cntNL]; omega
mutual
theorem depN_le : ∀ t,depN t ≤ cntN t
  | .mk _ _ _ ks => by simp only [depN,cntN]; have:=depNL_le ks; omega
theorem depNL_le : ∀ ts,depNL ts ≤ cntNL ts
  | [] => Nat.le_refl _
  | t :: ts => by simp only [depNL,cntNL]; have:=depN_le t; have:=depNL_le ts; omega
end
mutual
/-- The program's count and the document's. -/
theorem cntT_iff : ∀ (t : Tr) (deep left : Nat),(cntN t ≤ left → depN t ≤ deep → cntT t deep left = some (left - cntN t)) ∧ (left < cntN t ∨ deep < depN t → cntT t deep left = none)
  | .mk _ _ _ ks,deep,left => by
   have h:=cntL_iff ks (deep - 1) (left - 1)
   simp only [cntT,cntN,depN]
   by_cases h0 : deep = 0 ∨ left = 0
   · rw [if_pos h0]
     exact ⟨fun h1 h2 => by omega,fun _ => rfl⟩
   · rw [if_neg h0]
     refine ⟨fun h1 h2 => ?_,fun h1 => ?_⟩
     · rw [h.1 (by omega) (by omega)]; congr 1; omega
     · exact h.2 (by omega)
theorem cntL_iff : ∀ (ts : List Tr) (deep left : Nat),(cntNL ts ≤ left → depNL ts ≤ deep → cntL ts deep left = some (left - cntNL ts)) ∧ (left < cntNL ts ∨ deep < depNL ts → cntL ts deep left = none)
  | [],deep,left => by
   simp only [cntL,cntNL,depNL]
   exact ⟨fun _ _ => rfl,fun h => by omega⟩
  | t :: ts,deep,left => by
   have ht:=cntT_iff t deep left
   simp only [cntL,cntNL,depNL]
   by_cases h : cntN t ≤ left ∧ depN t ≤ deep
   · rw [ht.1 h.1 h.2]
     have hl:=cntL_iff ts deep (left - cntN t)
     refine ⟨fun h1 h2 => ?_,fun h1 => ?_⟩
     · simp only; rw [hl.1 (by omega) (by omega)]; congr 1; omega
     · exact hl.2 (by omega)
   · have hn:=ht.2 (by omega)
     rw [hn]
     exact ⟨fun h1 h2 => by omega,fun _ => rfl⟩
end
theorem smallT_iff (t : Tr) : smallT t = (decide (cntN t ≤ 20000) && decide (depN t ≤ 100)):=by
 unfold smallT
 have h:=cntT_iff t 100 20000
 by_cases h1 : cntN t ≤ 20000
 · by_cases h2 : depN t ≤ 100
   · rw [h.1 h1 h2]; simp [h1,h2]
   · rw [h.2 (by omega)]; simp [h2]
 · rw [h.2 (by omega)]; simp [h1]
set_option maxRecDepth 20000 in
set_option maxHeartbeats 4000000 in
theorem size_any : ∀ (n : Nat) (k : Int) (s : List UInt8) (m : Int) (ks : List Tr) (ao : Option Addr) (c : Nat) (S : Nat → Prop) (w : World),cntN (.mk k s m ks) ≤ n → n ≤ 10000000 → (∀ b,S b → b < w.heap.size) → KT w S (.mk k s m ks) (.slice ao ks.length c) →
    Calls Tryz.prog 25 #[.agg #[.int .i64 k,.string ⟨s.toArray⟩,.int .i64 m,.slice ao ks.length c]] w fun e w' => e = .returned (.tuple #[.int .i64 (1 + cntNL ks : Nat),.int .i64 (depNL ks + 1 : Nat)]) ∧ Below w.heap.size w w':=by
  intro n
  induction n with
  | zero => intro k s m ks ao c S w h; simp only [cntN] at h; omega
  | succ n ih =>
   intro k s m ks ao c S w hn hn2 hS hk
   have HI:=Lib.hid ih
   clear ih
   simp only [cntN] at hn
   have hL:=Lst.of hk
   have hlen:=cntNL_len ks
   have hX0:=Hx.start (w:=w) (c0:=.int .i64 k) (c1:=.string ⟨s.toArray⟩) (c2:=.int .i64 m) (c3:=.slice ao ks.length c)
   clear hk
   go_enter Tryz.func25,Tryz.ntmps25
   go_wp2_with fail
   go_loopw [4,5,6] (fun v4 v5 v6 wr => ∃ j : Nat,j ≤ ks.length ∧ v6 = .int .i64 j ∧ v4 = .int .i64 (1 + cntNL (ks.take j) : Nat) ∧ v5 = .int .i64 (depNL (ks.take j) : Nat) ∧ Hx w (.int .i64 k) (.string ⟨s.toArray⟩) (.int .i64 m) (.slice ao ks.length c) wr) (fun _ _ v6 _ => ks.length - (intOf v6).toNat)
   case atStart => exact ⟨0,Nat.zero_le _,rfl,rfl,rfl,hX0⟩
   case round =>
    obtain ⟨j,hj,rfl,rfl,rfl,hX⟩:=hrel
    obtain ⟨x0,x1,x2,x3⟩:=hX.cells
    by_cases hlt : j < ks.length
    · obtain ⟨a,ha⟩ : ∃ t,ks[j]? = some t:=⟨_,List.getElem?_eq_getElem hlt⟩
      obtain ⟨g,o,a0,n0,q0,hao,y0,y1,y2,y3,hg,hka⟩:=hL.kid ha hS
      subst hao
      have z0:=(hX.out.cell (p:=⟨g,o + j * 4,none⟩) hg).trans y0
      have z1:=(hX.out.cell (p:=⟨g,o + j * 4 + 1,none⟩) hg).trans y1
      have z2:=(hX.out.cell (p:=⟨g,o + j * 4 + 2,none⟩) hg).trans y2
      have z3:=(hX.out.cell (p:=⟨g,o + j * 4 + 3,none⟩) hg).trans y3
      have hcm:=cntNL_mem (List.mem_of_getElem? ha)
      have hka' : KT wr S a (.slice a0 n0 q0):=hka.fr (fun b hb => hX.out.block b (hS b hb)) (fun _ h => h)
      have et : ks.take (j + 1) = ks.take j ++ [a]:=by rw [List.take_add_one,ha]; rfl
      have e1 : cntNL (ks.take (j + 1)) = cntNL (ks.take j) + cntN a:=by rw [et,cntNL_append]; simp [cntNL]
      have e2 : depNL (ks.take (j + 1)) = max (depNL (ks.take j)) (depN a):=by rw [et,depNL_append]; simp [depNL]
      have b1 : cntNL (ks.take (j + 1)) ≤ cntNL ks:=by
       have:=cntNL_append (ks.take (j + 1)) (ks.drop (j + 1)); rw [List.take_append_drop] at this; omega
      have b2:=depNL_le (ks.take (j + 1))
      obtain ⟨ak,av,am,aks⟩:=a
      obtain ⟨_,_,e⟩:=(Lst.of hka').slice
      injection e with e4 e5 e7
      clear e4 e7
      subst e5
      have cS:=HI.out ak av am aks a0 q0 S wr (by omega) (by omega) (fun b hb => Nat.lt_of_lt_of_le (hS b hb) hX.out.size) hka'
      have E1:=Lib.hid e1
      have E2:=Lib.hid e2
      have bn : 1 + cntNL aks ≤ 10000000:=by simp only [cntN] at hcm; omega
      have bd : depNL aks + 1 ≤ 10000000:=by have:=depNL_le aks; omega
      have bt : cntNL (ks.take j) ≤ 10000000:=by omega
      have bu : depNL (ks.take j) ≤ 10000000:=by have:=depNL_le (ks.take j); omega
      simp only [Tr.kind,Tr.text,Tr.num] at z0 z1 z2
      clear e1 e2 et ha hka hka' hcm y0 y1 y2 y3
      go_wp2_with fail
      refine cS.mono ?_
      rintro e w2 ⟨rfl,hb2⟩
      have hX2:=hX.next hb2
      clear cS
      by_cases hgt : ((depNL aks + 1 : Nat) : Int) > (depNL (ks.take j) : Nat)
      · have hd : decide (((depNL aks + 1 : Nat) : Int) > (depNL (ks.take j) : Nat)) = true:=by simpa using hgt
        have e3 : depNL (ks.take (j + 1)) = depNL aks + 1:=by rw [E2.out]; simp only [depN]; omega
        have E3:=Lib.hid e3
        clear e3
        go_wp2
        go_roundw
        case rel => exact ⟨j + 1,by omega,by go_num,by rw [E1.out]; simp only [cntN]; congr 1; omega,by rw [E3.out]; simp,hX2⟩
        case measure => simp [intOf]; omega
      · have hd : decide (((depNL aks + 1 : Nat) : Int) > (depNL (ks.take j) : Nat)) = false:=by simpa using hgt
        have e3 : depNL (ks.take (j + 1)) = depNL (ks.take j):=by rw [E2.out]; simp only [depN]; omega
        have E3:=Lib.hid e3
        clear e3
        go_wp2
        go_roundw
        case rel => exact ⟨j + 1,by omega,by go_num,by rw [E1.out]; simp only [cntN]; congr 1; omega,by rw [E3.out],hX2⟩
        case measure => simp [intOf]; omega
    · have ht : ks.take j = ks:=List.take_of_length_le (by omega)
      have b2:=depNL_le ks
      have e1 : cntNL (ks.take j) = cntNL ks:=by rw [ht]
      have e2 : depNL (ks.take j) = depNL ks:=by rw [ht]
      rw [e1,e2]
      have b3 : cntNL ks ≤ 10000000:=by omega
      have b4 : depNL ks ≤ 10000000:=by omega
      clear ht e1 e2
      go_wp2
      exact bodyPost_ret (v:=.tuple #[.int .i64 (1 + cntNL ks : Nat),.int .i64 (depNL ks + 1 : Nat)]) (by simp [results,Tryz.results25,go_sem]) rfl ⟨rfl,hX.out⟩
end Go.Proofs.YtnkphlkjhgngkaaGreatDoor

namespace Go.Proofs.YtnkphlkjhgngkaaGreatDoor
/-- What it comes to has no more nodes than tokens were read from i on, and c. -/
def Cn {α : Type} (m : α → Nat) (i c : Nat) : Res α → Prop
  | .ok a j => m a + i ≤ j + c
  | .bad _ => True
def one1 {α : Type} (_ : α) : Nat:=1
section
variable {α β : Type} {i c i2 c2 : Nat} {r a b : Res α} {f : α → Nat → Res β} {m : α → Nat} {v : β → Nat}
theorem Cn.bind (h : Cn m i c r) (hf : ∀ a k,m a + i ≤ k + c → Cn v i2 c2 (f a k)) : Cn v i2 c2 (r.bind f):=by
 cases r with
 | bad j => trivial
 | ok x j => exact hf x j h
theorem Cn.ok {x : α} {j : Nat} (h : m x + i ≤ j + c) : Cn m i c (.ok x j):=h
theorem Cn.bad (j : Nat) : Cn m i c (.bad j : Res α):=trivial
theorem Cn.ite {q : Prop} [Decidable q] (h1 : Cn m i c a) (h2 : Cn m i c b) : Cn m i c (if q then a else b):=by split <;> assumption
theorem Cn.le (h : Cn m i c r) (hi : i2 + c ≤ i + c2) : Cn m i2 c2 r:=by
 cases r with
 | bad j => trivial
 | ok x j => simp only [Cn] at h ⊢; omega
end
structure PsC (p : Ps) : Prop where
  typ : ∀ i,Cn cntN i 0 (p.typ i)
  bin : ∀ h n i,Cn cntN i 0 (p.bin h n i)
  una : ∀ h i,Cn cntN i 0 (p.una h i)
  blk : ∀ i,Cn cntN i 0 (p.blk i)
  ifS : ∀ i,Cn cntN i 1 (p.ifS i)
theorem cnt1 (t : Tr) : cntNL [t] = cntN t:=by simp [cntNL]
theorem cnt2 (t u : Tr) : cntNL [t,u] = cntN t + cntN u:=by simp [cntNL]
theorem cnt3 (t u x : Tr) : cntNL [t,u,x] = cntN t + (cntN u + cntN x):=by simp [cntNL]
theorem cntC (t : Tr) (ts : List Tr) : cntNL (t :: ts) = cntN t + cntNL ts:=by simp [cntNL]
theorem cnt0 : cntNL [] = 0:=by simp [cntNL]
theorem cntM (k : Int) (s : List UInt8) (n : Int) (ks : List Tr) : cntN (.mk k s n ks) = 1 + cntNL ks:=by simp [cntN]
section
variable (l : List Tk)
theorem nameR_cn (i : Nat) : Cn one1 i 0 (nameR l i):=Cn.ite (Cn.ok (by simp only [one1]; omega)) (Cn.bad _)
theorem needR_cn (s : List UInt8) (i : Nat) : Cn one1 i 0 (needR l s i):=Cn.ite (Cn.ok (by simp only [one1]; omega)) (Cn.bad _)
variable {item : Nat → Res Tr}
theorem upToF_cn (h : ∀ k,Cn cntN k 0 (item k)) (mark : List UInt8) (i0 : Nat) : ∀ f acc i,cntNL acc + i0 ≤ i → Cn cntNL i0 0 (upToF l mark item f acc i)
  | 0,_,_,_ => Cn.bad _
  | f + 1,_,i,ha => Cn.ite (Cn.ok ha) (Cn.bind (h i) fun _ _ hk => upToF_cn h mark i0 f _ _ (by rw [cntNL_append,cnt1]; omega))
theorem commasF_cn (h : ∀ k,Cn cntN k 0 (item k)) (i0 : Nat) : ∀ f acc i,cntNL acc + i0 ≤ i → Cn cntNL i0 0 (commasF l item f acc i)
  | 0,_,_,_ => Cn.bad _
  | f + 1,_,_,ha => Cn.ite (Cn.bind (h _) fun _ _ hk => commasF_cn h i0 f _ _ (by rw [cntNL_append,cnt1]; omega)) (Cn.ok ha)
theorem upToR_cn (h : ∀ k,Cn cntN k 0 (item k)) (mark : List UInt8) (i : Nat) : Cn cntNL i 0 (upToR l mark item i):=upToF_cn l h mark i _ _ _ (by rw [cnt0]; omega)
theorem commasR_cn (h : ∀ k,Cn cntN k 0 (item k)) (i : Nat) : Cn cntNL i 0 (commasR l item i):=Cn.bind (h i) fun _ _ hk => commasF_cn l h i _ _ _ (by rw [cnt1]; omega)
theorem betweenR_cn {α : Type} {m : α → Nat} {c : Nat} {inner : Nat → Res α} (h : ∀ k,Cn m k c (inner k)) (o s : List UInt8) (i : Nat) : Cn m (i + 2) c (betweenR l o s inner i) :=
  Cn.bind (needR_cn l o i) fun _ _ h1 => Cn.bind (h _) fun _ _ h2 => Cn.bind (needR_cn l s _) fun _ _ h3 => Cn.ok (by simp only [one1] at h1 h3; omega)
theorem innerR_cn (h : ∀ k,Cn cntN k 0 (item k)) (s : List UInt8) (i : Nat) : Cn cntNL i 0 (innerR l s item i):=Cn.ite (Cn.ok (by rw [cnt0]; omega)) (commasR_cn l h i)
theorem listedR_cn (h : ∀ k,Cn cntN k 0 (item k)) (o s : List UInt8) (i : Nat) : Cn cntNL (i + 2) 0 (listedR l o s item i):=betweenR_cn l (innerR_cn l h s) o s i
theorem membersR_cn (h : ∀ k,Cn cntN k 0 (item k)) (i : Nat) : Cn cntNL (i + 2) 0 (membersR l item i):=betweenR_cn l (upToR_cn l h _) _ _ i
variable {p : Ps} (P : PsC p)
include P
theorem typesR_cn (i : Nat) : Cn cntNL i 0 (typesR l p i):=commasR_cn l P.typ i
theorem resultsR_cn (i : Nat) : Cn cntNL i 0 (resultsR l p i) :=
  Cn.ite (Cn.le (betweenR_cn l (typesR_cn l P) _ _ i) (by omega)) (Cn.ite (Cn.bind (P.typ i) fun _ _ h => Cn.ok (by rw [cnt1]; omega)) (Cn.ok (by rw [cnt0]; omega)))
theorem functionR_cn {param : Nat → Res Tr} (h : ∀ k,Cn cntN k 0 (param k)) (kind : Int) (i : Nat) : Cn cntN i 0 (functionR l p kind param i) :=
  Cn.bind (listedR_cn l h _ _ i) fun _ _ h1 => Cn.bind (resultsR_cn l P _) fun _ _ h2 => Cn.ok (by rw [cntM,cntNL_append]; omega)
theorem typS_cn (i : Nat) : Cn cntN i 0 (typS l p i) :=
  Cn.ite (Cn.ok (by rw [cntM,cnt0]; omega)) (Cn.ite (Cn.bind (P.typ _) fun _ _ h => Cn.ok (by rw [cntM,cnt1]; omega)) (Cn.ite (Cn.bind (needR_cn l _ _) fun _ _ h1 => Cn.bind (P.typ _) fun _ _ h2 => Cn.ok (by rw [cntM,cnt1]; simp only [one1] at h1; omega))
    (Cn.bind (needR_cn l _ _) fun _ _ h1 => Cn.le (functionR_cn l P P.typ _ _) (by simp only [one1] at h1; omega))))
theorem paramR_cn (i : Nat) : Cn cntN i 0 (paramR l p i):=Cn.bind (nameR_cn l i) fun _ _ h1 => Cn.bind (P.typ _) fun _ _ h2 => Cn.ok (by rw [cntM,cnt1]; simp only [one1] at h1; omega)
theorem sigR_cn (i : Nat) : Cn cntN i 0 (sigR l p i):=functionR_cn l P (paramR_cn l P) _ i
omit l in
theorem exprR_cn (h : Bool) (i : Nat) : Cn cntN i 0 (exprR p h i):=P.bin _ _ _
theorem exprsR_cn (h : Bool) (i : Nat) : Cn cntNL i 0 (exprsR l p h i):=commasR_cn l (exprR_cn P h) i
theorem elementsR_cn (i : Nat) : Cn cntNL (i + 2) 0 (elementsR l p i):=listedR_cn l (exprR_cn P false) _ _ i
theorem namedR_cn (h : Bool) (i : Nat) : Cn cntN i 0 (namedR l p h i) :=
  Cn.bind (nameR_cn l i) fun _ _ h1 => Cn.ite (Cn.bind (elementsR_cn l P _) fun _ _ h2 => Cn.ok (by rw [cntM]; simp only [one1] at h1; omega)) (Cn.ok (by rw [cntM,cnt0]; simp only [one1] at h1; omega))
theorem cutR_cn (num : Int) (ks : List Tr) (i : Nat) : Cn cntN i (cntNL ks) (cutR l p num ks i) :=
  Cn.bind (needR_cn l _ i) fun _ _ h1 => Cn.ite (Cn.ok (by rw [cntM]; simp only [one1] at h1; omega)) (Cn.bind (exprR_cn P _ _) fun _ _ h2 => Cn.ok (by rw [cntM,cntNL_append,cnt1]; simp only [one1] at h1; omega))
theorem partR_cn (t : Tr) (i : Nat) : Cn cntN i (cntN t + 1) (partR l p t i) :=
  Cn.ite (Cn.le (cutR_cn l P _ _ _) (by rw [cnt1]; omega)) (Cn.bind (exprR_cn P _ _) fun _ _ h1 => Cn.ite (Cn.le (cutR_cn l P _ _ _) (by rw [cnt2]; omega)) (Cn.ok (by rw [cntM,cnt2]; omega)))
theorem primR_cn (h : Bool) (i : Nat) : Cn cntN i 0 (primR l p h i) :=
  Cn.ite (Cn.ok (by rw [cntM,cnt0]; omega)) (Cn.ite (Cn.ok (by rw [cntM,cnt0]; omega)) (Cn.ite (namedR_cn l P _ _) (Cn.ite (Cn.ok (by rw [cntM,cnt0]; omega)) (Cn.ite (Cn.ok (by rw [cntM,cnt0]; omega)) (Cn.ite (Cn.ok (by rw [cntM,cnt0]; omega)) (Cn.ite (Cn.le (betweenR_cn l (exprR_cn P false) _ _ _) (by omega))
    (Cn.ite (Cn.bind (needR_cn l _ _) fun _ _ h1 => Cn.bind (P.typ _) fun _ _ h2 => Cn.bind (elementsR_cn l P _) fun _ _ h3 => Cn.ok (by rw [cntM,cntC]; simp only [one1] at h1; omega))
      (Cn.bind (needR_cn l _ _) fun _ _ h1 => Cn.bind (sigR_cn l P _) fun _ _ h2 => Cn.bind (P.blk _) fun _ _ h3 => Cn.ok (by rw [cntM,cnt2]; simp only [one1] at h1; omega)))))))))
theorem postF_cn (i0 : Nat) : ∀ f t i,cntN t + i0 ≤ i → Cn cntN i0 0 (postF l p f t i)
  | 0,_,_,_ => Cn.bad _
  | f + 1,_,_,ht => Cn.ite (Cn.bind (nameR_cn l _) fun _ _ h1 => postF_cn i0 f _ _ (by rw [cntM,cnt1]; simp only [one1] at h1; omega))
      (Cn.ite (Cn.bind (betweenR_cn l (partR_cn l P _) _ _ _) fun _ _ h1 => postF_cn i0 f _ _ (by omega))
        (Cn.ite (Cn.bind (listedR_cn l (exprR_cn P false) _ _ _) fun _ _ h1 => postF_cn i0 f _ _ (by rw [cntM,cntC]; omega)) (Cn.ok ht)))
theorem postR_cn (h : Bool) (i : Nat) : Cn cntN i 0 (postR l p h i):=Cn.bind (primR_cn l P h i) fun _ _ h1 => postF_cn l P i _ _ _ (by omega)
theorem unaS_cn (h : Bool) (i : Nat) : Cn cntN i 0 (unaS l p h i):=Cn.ite (Cn.bind (P.una _ _) fun _ _ h1 => Cn.ok (by rw [cntM,cnt1]; omega)) (postR_cn l P _ _)
theorem binF_cn (h : Bool) (n : Int) (i0 : Nat) : ∀ f t i,cntN t + i0 ≤ i → Cn cntN i0 0 (binF l p h n f t i)
  | 0,_,_,_ => Cn.bad _
  | f + 1,_,_,ht => Cn.ite (Cn.bind (P.bin _ _ _) fun _ _ h1 => binF_cn h n i0 f _ _ (by rw [cntM,cnt2]; omega)) (Cn.ok ht)
theorem binS_cn (h : Bool) (n : Int) (i : Nat) : Cn cntN i 0 (binS l p h n i):=Cn.bind (P.una _ _) fun _ _ h1 => binF_cn l P _ _ i _ _ _ (by omega)
theorem ifSS_cn (i : Nat) : Cn cntN i 1 (ifSS l p i) :=
  Cn.bind (exprR_cn P true i) fun _ _ h1 => Cn.bind (P.blk _) fun _ _ h2 => Cn.ite (Cn.ite (Cn.bind (P.ifS _) fun _ _ h3 => Cn.ok (by rw [cntM,cnt3]; omega)) (Cn.bind (P.blk _) fun _ _ h3 => Cn.ok (by rw [cntM,cnt3]; omega))) (Cn.ok (by rw [cntM,cnt2]; omega))
theorem forR_cn (i : Nat) : Cn cntN i 1 (forR l p i) :=
  Cn.ite (Cn.bind (P.blk _) fun _ _ h1 => Cn.ok (by rw [cntM,cnt1]; omega)) (Cn.bind (exprR_cn P true i) fun _ _ h1 => Cn.bind (P.blk _) fun _ _ h2 => Cn.ok (by rw [cntM,cnt2]; omega))
theorem variableR_cn (h : Bool) (i : Nat) : Cn cntN i 0 (variableR l p h i) :=
  Cn.bind (nameR_cn l i) fun _ _ h1 => Cn.bind (P.typ _) fun _ _ h2 => Cn.ite (Cn.bind (exprR_cn P _ _) fun _ _ h3 => Cn.ok (by rw [cntM,cnt2]; simp only [one1] at h1; omega)) (Cn.ok (by rw [cntM,cnt1]; simp only [one1] at h1; omega))
theorem assignedR_cn (h : Bool) (kind : Int) (ts : List Tr) (i : Nat) : Cn cntN i (cntNL ts) (assignedR l p h kind ts i):=Cn.bind (exprsR_cn l P _ _) fun _ _ h1 => Cn.ok (by rw [cntM,cntNL_append]; omega)
theorem assignmentR_cn (h : Bool) (i : Nat) : Cn cntN i 1 (assignmentR l p h i) :=
  Cn.bind (exprsR_cn l P h i) fun es k h0 => Cn.ite (Cn.le (assignedR_cn l P _ _ _ _) (by omega)) (Cn.ite (Cn.le (assignedR_cn l P _ _ _ _) (by omega)) (by
    split
    · exact Cn.ite (Cn.ok (by rw [cntM]; omega)) (Cn.bad _)
    · exact Cn.bad _))
theorem simpleR_cn (h : Bool) (i : Nat) : Cn cntN i 1 (simpleR l p h i) :=
  Cn.ite (Cn.le (variableR_cn l P _ _) (by omega)) (Cn.ite (Cn.ok (by rw [cntM,cnt0]; omega)) (Cn.ite (Cn.ok (by rw [cntM,cnt0]; omega)) (Cn.ite (Cn.ite (Cn.ok (by rw [cntM,cnt0]; omega)) (Cn.bind (exprsR_cn l P _ _) fun _ _ h1 => Cn.ok (by rw [cntM]; omega))) (assignmentR_cn l P _ _))))
theorem stmtR_cn (h : Bool) (i : Nat) : Cn cntN i 0 (stmtR l p h i) :=
  Cn.ite (P.blk _) (Cn.ite (Cn.le (P.ifS _) (by omega)) (Cn.ite (Cn.le (forR_cn l P _) (by omega)) (Cn.bind (simpleR_cn l P _ _) fun _ _ h1 => Cn.bind (needR_cn l _ _) fun _ _ h2 => Cn.ok (by simp only [one1] at h2; omega))))
theorem blkS_cn (i : Nat) : Cn cntN i 0 (blkS l p i):=Cn.bind (membersR_cn l (stmtR_cn l P false) i) fun _ _ h1 => Cn.ok (by rw [cntM]; omega)
theorem fieldR_cn (i : Nat) : Cn cntN i 0 (fieldR l p i):=Cn.bind (nameR_cn l i) fun _ _ h1 => Cn.bind (P.typ _) fun _ _ h2 => Cn.bind (needR_cn l _ _) fun _ _ h3 => Cn.ok (by rw [cntM,cnt1]; simp only [one1] at h1 h3; omega)
theorem methodR_cn (i : Nat) : Cn cntN i 0 (methodR l p i):=Cn.bind (nameR_cn l i) fun _ _ h1 => Cn.bind (sigR_cn l P _) fun _ _ h2 => Cn.bind (needR_cn l _ _) fun _ _ h3 => Cn.ok (by rw [cntM,cnt1]; simp only [one1] at h1 h3; omega)
omit P in
theorem receiverR_cn (i : Nat) : Cn cntN i 0 (receiverR l i):=Cn.bind (nameR_cn l i) fun _ _ h1 => Cn.bind (needR_cn l _ _) fun _ _ h2 => Cn.bind (nameR_cn l _) fun _ _ h3 => Cn.ok (by simp only [cntM,cnt1,cnt0]; simp only [one1] at h1 h2 h3; omega)
theorem typeDeclR_cn (i : Nat) : Cn cntN i 0 (typeDeclR l p i) :=
  Cn.bind (nameR_cn l i) fun _ _ h1 => Cn.ite (Cn.bind (membersR_cn l (fieldR_cn l P) _) fun _ _ h2 => Cn.ok (by rw [cntM]; simp only [one1] at h1; omega)) (Cn.bind (needR_cn l _ _) fun _ _ h3 => Cn.bind (membersR_cn l (methodR_cn l P) _) fun _ _ h2 => Cn.ok (by rw [cntM]; simp only [one1] at h1 h3; omega))
theorem declR_cn (i : Nat) : Cn cntN i 0 (declR l p i) :=
  Cn.ite (Cn.le (typeDeclR_cn l P _) (by omega)) (Cn.bind (needR_cn l _ i) fun _ _ h0 => Cn.ite (Cn.bind (betweenR_cn l (receiverR_cn l) _ _ _) fun _ _ h1 => Cn.bind (nameR_cn l _) fun _ _ h2 => Cn.bind (sigR_cn l P _) fun _ _ h3 => Cn.bind (P.blk _) fun _ _ h4 => Cn.ok (by rw [cntM,cnt3]; simp only [one1] at h0 h2; omega))
    (Cn.bind (nameR_cn l _) fun _ _ h2 => Cn.bind (sigR_cn l P _) fun _ _ h3 => Cn.bind (P.blk _) fun _ _ h4 => Cn.ok (by rw [cntM,cnt2]; simp only [one1] at h0 h2; omega)))
omit P in
theorem ps_cn : ∀ n,PsC (ps l n)
  | 0 => ⟨fun _ => Cn.bad _,fun _ _ _ => Cn.bad _,fun _ _ => Cn.bad _,fun _ => Cn.bad _,fun _ => Cn.bad _⟩
  | n + 1 => ⟨typS_cn l (ps_cn n),binS_cn l (ps_cn n),unaS_cn l (ps_cn n),blkS_cn l (ps_cn n),ifSS_cn l (ps_cn n)⟩
omit P in
theorem treeR_cn : Cn cntN 0 1 (treeR l):=Cn.bind (upToR_cn l (declR_cn l (ps_cn l _)) _ 0) fun _ _ h => Cn.ok (by rw [cntM]; omega)
end
end Go.Proofs.YtnkphlkjhgngkaaGreatDoor
