/- The document's objects and effect, whole. -/
import Derived.Test.YtkdojpnihinpbaaGreatDoorVfRh2Jo
namespace Go.Proofs.YtkdojpnihinpbaaGreatDoor
open Go.RowKit
def efP (p:Pg) (f:Fd) (i:In3) (s:List Int):Except Int (List Int) :=
  if (takesP p f i).fine (s.drop (s.length - (takesP p f i).n))=false then .error 8
  else match putsP p f i ((s.drop (s.length - (takesP p f i).n)).getLast?.getD 0) ((s.drop (s.length - (takesP p f i).n)).head?.getD 0) with
    | .error e=>.error e
    | .ok l=>.ok (s.take (s.length - (takesP p f i).n)++l)
def EfR (C:Nat) (res:Except Int (List Int)) (w:World) (e:Ending) (W:World):Prop:=match res with
  | .ok l=>EfOk C l w e W
  | .error c=>EfNo C c w e W
theorem split1 {s:List Int} (h:1≤s.length):∃ r x,s=r++[x]∧s.take (s.length - 1)=r∧s.drop (s.length - 1)=[x]:=by
 obtain ⟨x,hx⟩ : ∃ x,s.drop (s.length - 1)=[x]:=by
  have:(s.drop (s.length - 1)).length=1:=by rw [List.length_drop];omega
  match hd:s.drop (s.length - 1),this with
  | [x],_=>exact ⟨x,rfl⟩
 exact ⟨s.take (s.length - 1),x,by rw [← hx,List.take_append_drop],rfl,hx⟩
theorem split2 {s:List Int} (h:2≤s.length):∃ r x y,s=r++[x,y]∧s.take (s.length - 2)=r∧s.drop (s.length - 2)=[x,y]:=by
 obtain ⟨x,y,hx⟩ : ∃ x y,s.drop (s.length - 2)=[x,y]:=by
  have:(s.drop (s.length - 2)).length=2:=by rw [List.length_drop];omega
  match hd:s.drop (s.length - 2),this with
  | [x,y],_=>exact ⟨x,y,rfl⟩
 exact ⟨s.take (s.length - 2),x,y,by rw [← hx,List.take_append_drop],rfl,hx⟩
theorem fine1 {m:Must} {x:Int}:m.fine [x]=m.at 0 0 x:=by simp [Must.fine]
theorem fine2 {m:Must} {x y:Int}:m.fine [x,y]=(m.at 0 y x && m.at 1 y y):=by simp [Must.fine,List.range_succ]
theorem ptr_type {n:Nat} {x:Int} (hk:isKB n x=true) (hp:ptrB x=true):∃ t:Nat,bareK x=2+2*(t:Int)∧t<n:=by
 unfold isKB at hk
 unfold ptrB at hp
 rw [decide_eq_true_eq] at hk hp
 refine ⟨((bareK x - 2) / 2).toNat,by omega,?_⟩
 rcases hk with rfl | rfl | hk
 · simp [bareK] at hp
 · simp [bareK] at hp
 · omega
section
variable {B Bs C:Nat} {w:World} {p:Pg} {f:Fd} {a b:Int} {v1 v2 v3 v4 u1 u2 u3 u4 vs vr:Value} {s r:List Int}
theorem oa_11 (P:PgAt B w v1 v2 v3 v4 p) (hB:B≤w.heap.size) (s1:SlAt 1 IntP B w u1 f.lo) (s2:SlAt 1 IntP B w u2 f.re) (s3:SlAt 1 IntP B w u3 f.ar) (H:Hok p) (F:FdOk p f) (Rs:SlAt 1 IntP Bs w vs s) (O:OwI C w vr r) (hsC:Bs≤C) (hC:C≤w.heap.size) (hsl:s.length≤300000000) (hks:∀ k∈s,isKB p.ty.length k=true) (hN:namesB p f ⟨11,a,b⟩=true) (hn:(takesP p f ⟨11,a,b⟩).n≤s.length) (hr:s.take (s.length - (takesP p f ⟨11,a,b⟩).n)=r):Calls Tryz.prog 46 #[.agg #[v1,v2,v3,v4],.agg #[.int .i64 f.pa,u1,u2,u3,u4],.agg #[.int .i64 11,.int .i64 a,.int .i64 b],vs,vr] w (EfR C (efP p f ⟨11,a,b⟩ s) w):=by
 have _u:f.lo.length≤4096∧(∀ k∈s,isKB p.ty.length k=true)∧(takesP p f ⟨11,a,b⟩).n≤s.length∧namesB p f ⟨11,a,b⟩=true∧s.length≤300000000:=⟨F.nl,hks,hn,hN,hsl⟩
 clear _u
 have ht:(takesP p f ⟨11,a,b⟩).n=0:=by simp [takesP,Must.n]
 have hnt:=H.nt
 have hsr:s=r:=by rw [← hr,ht,Nat.sub_zero,List.take_length]
 unfold efP
 rw [ht,Nat.sub_zero,List.take_length,List.drop_length]
 rw [ht] at hn hr
 have hin:inB a p.ty.length=true:=by simpa [namesB] using hN
 obtain ⟨n,hna,hnl⟩:=in_nat hin
 simp only [takesP,putsP,Must.fine]
 simp
 rw [hsr]
 exact ob_11 P hB s1 s2 s3 Rs O hsC hC (by rw [← hsr];exact hsl) hsl ⟨by omega,by omega⟩
theorem oa_29 (P:PgAt B w v1 v2 v3 v4 p) (hB:B≤w.heap.size) (s1:SlAt 1 IntP B w u1 f.lo) (s2:SlAt 1 IntP B w u2 f.re) (s3:SlAt 1 IntP B w u3 f.ar) (H:Hok p) (F:FdOk p f) (Rs:SlAt 1 IntP Bs w vs s) (O:OwI C w vr r) (hsC:Bs≤C) (hC:C≤w.heap.size) (hsl:s.length≤300000000) (hks:∀ k∈s,isKB p.ty.length k=true) (hN:namesB p f ⟨29,a,b⟩=true) (hn:(takesP p f ⟨29,a,b⟩).n≤s.length) (hr:s.take (s.length - (takesP p f ⟨29,a,b⟩).n)=r):Calls Tryz.prog 46 #[.agg #[v1,v2,v3,v4],.agg #[.int .i64 f.pa,u1,u2,u3,u4],.agg #[.int .i64 29,.int .i64 a,.int .i64 b],vs,vr] w (EfR C (efP p f ⟨29,a,b⟩ s) w):=by
 have _u:f.lo.length≤4096∧(∀ k∈s,isKB p.ty.length k=true)∧(takesP p f ⟨29,a,b⟩).n≤s.length∧namesB p f ⟨29,a,b⟩=true∧s.length≤300000000:=⟨F.nl,hks,hn,hN,hsl⟩
 clear _u
 have ht:(takesP p f ⟨29,a,b⟩).n=0:=by simp [takesP,Must.n]
 have hnt:=H.nt
 have hsr:s=r:=by rw [← hr,ht,Nat.sub_zero,List.take_length]
 unfold efP
 rw [ht,Nat.sub_zero,List.take_length,List.drop_length]
 rw [ht] at hn hr
 have hin:inB b p.ty.length=true:=by simp [namesB] at hN;exact hN.1.2
 obtain ⟨n,hna,hnl⟩:=in_nat hin
 simp only [takesP,putsP,Must.fine]
 simp
 rw [hsr]
 exact ob_29 P hB s1 s2 s3 Rs O hsC hC (by rw [← hsr];exact hsl) hsl ⟨by omega,by omega⟩
theorem oa_13 (P:PgAt B w v1 v2 v3 v4 p) (hB:B≤w.heap.size) (s1:SlAt 1 IntP B w u1 f.lo) (s2:SlAt 1 IntP B w u2 f.re) (s3:SlAt 1 IntP B w u3 f.ar) (H:Hok p) (F:FdOk p f) (Rs:SlAt 1 IntP Bs w vs s) (O:OwI C w vr r) (hsC:Bs≤C) (hC:C≤w.heap.size) (hsl:s.length≤300000000) (hks:∀ k∈s,isKB p.ty.length k=true) (hN:namesB p f ⟨13,a,b⟩=true) (hn:(takesP p f ⟨13,a,b⟩).n≤s.length) (hr:s.take (s.length - (takesP p f ⟨13,a,b⟩).n)=r):Calls Tryz.prog 46 #[.agg #[v1,v2,v3,v4],.agg #[.int .i64 f.pa,u1,u2,u3,u4],.agg #[.int .i64 13,.int .i64 a,.int .i64 b],vs,vr] w (EfR C (efP p f ⟨13,a,b⟩ s) w):=by
 have _u:f.lo.length≤4096∧(∀ k∈s,isKB p.ty.length k=true)∧(takesP p f ⟨13,a,b⟩).n≤s.length∧namesB p f ⟨13,a,b⟩=true∧s.length≤300000000:=⟨F.nl,hks,hn,hN,hsl⟩
 clear _u
 have ht:(takesP p f ⟨13,a,b⟩).n=0:=by simp [takesP,Must.n]
 have hnt:=H.nt
 have hsr:s=r:=by rw [← hr,ht,Nat.sub_zero,List.take_length]
 unfold efP
 rw [ht,Nat.sub_zero,List.take_length,List.drop_length]
 rw [ht] at hn hr
 have hin:inB a f.ar.length=true:=by simpa [namesB] using hN
 obtain ⟨n,hna,hnl⟩:=in_nat hin
 obtain ⟨t,htt⟩ : ∃ t,f.ar[n]?=some t:=⟨f.ar[n],by simp⟩
 obtain ⟨tk,rfl,htk⟩:=in_nat (F.ar t (List.mem_of_getElem? htt))
 subst hna
 simp only [takesP,putsP,Must.fine]
 simp [htt]
 rw [hsr]
 have:=ob_13 P hB s1 s2 s3 Rs O hsC hC (by rw [← hsr];exact hsl) hsl (u4:=u4) (b:=b) rfl htt (by omega)
 exact this
theorem oa_12 (P:PgAt B w v1 v2 v3 v4 p) (hB:B≤w.heap.size) (s1:SlAt 1 IntP B w u1 f.lo) (s2:SlAt 1 IntP B w u2 f.re) (s3:SlAt 1 IntP B w u3 f.ar) (H:Hok p) (F:FdOk p f) (Rs:SlAt 1 IntP Bs w vs s) (O:OwI C w vr r) (hsC:Bs≤C) (hC:C≤w.heap.size) (hsl:s.length≤300000000) (hks:∀ k∈s,isKB p.ty.length k=true) (hN:namesB p f ⟨12,a,b⟩=true) (hn:(takesP p f ⟨12,a,b⟩).n≤s.length) (hr:s.take (s.length - (takesP p f ⟨12,a,b⟩).n)=r):Calls Tryz.prog 46 #[.agg #[v1,v2,v3,v4],.agg #[.int .i64 f.pa,u1,u2,u3,u4],.agg #[.int .i64 12,.int .i64 a,.int .i64 b],vs,vr] w (EfR C (efP p f ⟨12,a,b⟩ s) w):=by
 have _u:f.lo.length≤4096∧(∀ k∈s,isKB p.ty.length k=true)∧(takesP p f ⟨12,a,b⟩).n≤s.length∧namesB p f ⟨12,a,b⟩=true∧s.length≤300000000:=⟨F.nl,hks,hn,hN,hsl⟩
 clear _u
 have ht:(takesP p f ⟨12,a,b⟩).n=1:=by simp [takesP,Must.n]
 have hnt:=H.nt
 rw [ht] at hn hr
 obtain ⟨r',x,hs,ht1,hd1⟩:=split1 hn
 rw [ht1] at hr
 subst hr
 have hkx:=hks x (by rw [hs];simp)
 have hkd:=kd_of hnt hkx
 have hrl:r'.length≤300000000:=by rw [hs,List.length_append] at hsl;omega
 unfold efP
 rw [ht,hd1,ht1,fine1]
 have hin:inB a p.ty.length=true:=by simpa [namesB] using hN
 obtain ⟨n,hna,hnl⟩:=in_nat hin
 rw [show (takesP p f ⟨12,a,b⟩).at 0 0 x=fitB x 0 by simp [takesP,Must.at]]
 rw [show putsP p f ⟨12,a,b⟩ (([x]:List Int).getLast?.getD 0) (([x]:List Int).head?.getD 0)=.ok [3+2*a] by simp [putsP]]
 cases hc:fitB x 0 with
 | true=>exact ob_12t P hB s1 s2 s3 Rs O hsC hC hrl hs ⟨by omega,by omega⟩ (by have h:=hc;unfold fitB bareK at h;simpa using h)
 | false=>exact ob_12f P hB s1 s2 s3 Rs O hsC hC hrl hs ⟨by omega,by omega⟩ (by have h:=hc;unfold fitB bareK at h;simpa using h)
theorem oa_20 (P:PgAt B w v1 v2 v3 v4 p) (hB:B≤w.heap.size) (s1:SlAt 1 IntP B w u1 f.lo) (s2:SlAt 1 IntP B w u2 f.re) (s3:SlAt 1 IntP B w u3 f.ar) (H:Hok p) (F:FdOk p f) (Rs:SlAt 1 IntP Bs w vs s) (O:OwI C w vr r) (hsC:Bs≤C) (hC:C≤w.heap.size) (hsl:s.length≤300000000) (hks:∀ k∈s,isKB p.ty.length k=true) (hN:namesB p f ⟨20,a,b⟩=true) (hn:(takesP p f ⟨20,a,b⟩).n≤s.length) (hr:s.take (s.length - (takesP p f ⟨20,a,b⟩).n)=r):Calls Tryz.prog 46 #[.agg #[v1,v2,v3,v4],.agg #[.int .i64 f.pa,u1,u2,u3,u4],.agg #[.int .i64 20,.int .i64 a,.int .i64 b],vs,vr] w (EfR C (efP p f ⟨20,a,b⟩ s) w):=by
 have _u:f.lo.length≤4096∧(∀ k∈s,isKB p.ty.length k=true)∧(takesP p f ⟨20,a,b⟩).n≤s.length∧namesB p f ⟨20,a,b⟩=true∧s.length≤300000000:=⟨F.nl,hks,hn,hN,hsl⟩
 clear _u
 have ht:(takesP p f ⟨20,a,b⟩).n=1:=by simp [takesP,Must.n]
 have hnt:=H.nt
 rw [ht] at hn hr
 obtain ⟨r',x,hs,ht1,hd1⟩:=split1 hn
 rw [ht1] at hr
 subst hr
 have hkx:=hks x (by rw [hs];simp)
 have hkd:=kd_of hnt hkx
 have hrl:r'.length≤300000000:=by rw [hs,List.length_append] at hsl;omega
 unfold efP
 rw [ht,hd1,ht1,fine1]
 rw [show (takesP p f ⟨20,a,b⟩).at 0 0 x=fitB x 1 by simp [takesP,Must.at]]
 rw [show putsP p f ⟨20,a,b⟩ (([x]:List Int).getLast?.getD 0) (([x]:List Int).head?.getD 0)=.ok [0] by simp [putsP]]
 cases hc:fitB x 1 with
 | true=>exact ob_20t P hB s1 s2 s3 Rs O hsC hC hrl hs (by have h:=hc;unfold fitB bareK at h;simpa using h)
 | false=>exact ob_20f P hB s1 s2 s3 Rs O hsC hC hrl hs (by have h:=hc;unfold fitB bareK at h;simpa using h)
theorem oa_21 (P:PgAt B w v1 v2 v3 v4 p) (hB:B≤w.heap.size) (s1:SlAt 1 IntP B w u1 f.lo) (s2:SlAt 1 IntP B w u2 f.re) (s3:SlAt 1 IntP B w u3 f.ar) (H:Hok p) (F:FdOk p f) (Rs:SlAt 1 IntP Bs w vs s) (O:OwI C w vr r) (hsC:Bs≤C) (hC:C≤w.heap.size) (hsl:s.length≤300000000) (hks:∀ k∈s,isKB p.ty.length k=true) (hN:namesB p f ⟨21,a,b⟩=true) (hn:(takesP p f ⟨21,a,b⟩).n≤s.length) (hr:s.take (s.length - (takesP p f ⟨21,a,b⟩).n)=r):Calls Tryz.prog 46 #[.agg #[v1,v2,v3,v4],.agg #[.int .i64 f.pa,u1,u2,u3,u4],.agg #[.int .i64 21,.int .i64 a,.int .i64 b],vs,vr] w (EfR C (efP p f ⟨21,a,b⟩ s) w):=by
 have _u:f.lo.length≤4096∧(∀ k∈s,isKB p.ty.length k=true)∧(takesP p f ⟨21,a,b⟩).n≤s.length∧namesB p f ⟨21,a,b⟩=true∧s.length≤300000000:=⟨F.nl,hks,hn,hN,hsl⟩
 clear _u
 have ht:(takesP p f ⟨21,a,b⟩).n=1:=by simp [takesP,Must.n]
 have hnt:=H.nt
 rw [ht] at hn hr
 obtain ⟨r',x,hs,ht1,hd1⟩:=split1 hn
 rw [ht1] at hr
 subst hr
 have hkx:=hks x (by rw [hs];simp)
 have hkd:=kd_of hnt hkx
 have hrl:r'.length≤300000000:=by rw [hs,List.length_append] at hsl;omega
 unfold efP
 rw [ht,hd1,ht1,fine1]
 have hin:inB a p.ty.length=true:=by simpa [namesB] using hN
 obtain ⟨n,hna,hnl⟩:=in_nat hin
 rw [show (takesP p f ⟨21,a,b⟩).at 0 0 x=fitB x 1 by simp [takesP,Must.at]]
 rw [show putsP p f ⟨21,a,b⟩ (([x]:List Int).getLast?.getD 0) (([x]:List Int).head?.getD 0)=.ok [2+2*a] by simp [putsP]]
 cases hc:fitB x 1 with
 | true=>exact ob_21t P hB s1 s2 s3 Rs O hsC hC hrl hs ⟨by omega,by omega⟩ (by have h:=hc;unfold fitB bareK at h;simpa using h)
 | false=>exact ob_21f P hB s1 s2 s3 Rs O hsC hC hrl hs ⟨by omega,by omega⟩ (by have h:=hc;unfold fitB bareK at h;simpa using h)
theorem oa_18 (P:PgAt B w v1 v2 v3 v4 p) (hB:B≤w.heap.size) (s1:SlAt 1 IntP B w u1 f.lo) (s2:SlAt 1 IntP B w u2 f.re) (s3:SlAt 1 IntP B w u3 f.ar) (H:Hok p) (F:FdOk p f) (Rs:SlAt 1 IntP Bs w vs s) (O:OwI C w vr r) (hsC:Bs≤C) (hC:C≤w.heap.size) (hsl:s.length≤300000000) (hks:∀ k∈s,isKB p.ty.length k=true) (hN:namesB p f ⟨18,a,b⟩=true) (hn:(takesP p f ⟨18,a,b⟩).n≤s.length) (hr:s.take (s.length - (takesP p f ⟨18,a,b⟩).n)=r):Calls Tryz.prog 46 #[.agg #[v1,v2,v3,v4],.agg #[.int .i64 f.pa,u1,u2,u3,u4],.agg #[.int .i64 18,.int .i64 a,.int .i64 b],vs,vr] w (EfR C (efP p f ⟨18,a,b⟩ s) w):=by
 have _u:f.lo.length≤4096∧(∀ k∈s,isKB p.ty.length k=true)∧(takesP p f ⟨18,a,b⟩).n≤s.length∧namesB p f ⟨18,a,b⟩=true∧s.length≤300000000:=⟨F.nl,hks,hn,hN,hsl⟩
 clear _u
 have ht:(takesP p f ⟨18,a,b⟩).n=1:=by simp [takesP,Must.n]
 have hnt:=H.nt
 rw [ht] at hn hr
 obtain ⟨r',x,hs,ht1,hd1⟩:=split1 hn
 rw [ht1] at hr
 subst hr
 have hkx:=hks x (by rw [hs];simp)
 have hkd:=kd_of hnt hkx
 have hrl:r'.length≤300000000:=by rw [hs,List.length_append] at hsl;omega
 unfold efP
 rw [ht,hd1,ht1,fine1]
 rw [show (takesP p f ⟨18,a,b⟩).at 0 0 x=arrB x by simp [takesP,Must.at]]
 rw [show putsP p f ⟨18,a,b⟩ (([x]:List Int).getLast?.getD 0) (([x]:List Int).head?.getD 0)=.ok [0] by simp [putsP]]
 cases hc:arrB x with
 | true=>exact ob_18t P hB s1 s2 s3 Rs O hsC hC hrl hs ⟨by have:=hkd.1;omega,hkd.2⟩ hc
 | false=>exact ob_18f P hB s1 s2 s3 Rs O hsC hC hrl hs ⟨by have:=hkd.1;omega,hkd.2⟩ hc
theorem oa_19 (P:PgAt B w v1 v2 v3 v4 p) (hB:B≤w.heap.size) (s1:SlAt 1 IntP B w u1 f.lo) (s2:SlAt 1 IntP B w u2 f.re) (s3:SlAt 1 IntP B w u3 f.ar) (H:Hok p) (F:FdOk p f) (Rs:SlAt 1 IntP Bs w vs s) (O:OwI C w vr r) (hsC:Bs≤C) (hC:C≤w.heap.size) (hsl:s.length≤300000000) (hks:∀ k∈s,isKB p.ty.length k=true) (hN:namesB p f ⟨19,a,b⟩=true) (hn:(takesP p f ⟨19,a,b⟩).n≤s.length) (hr:s.take (s.length - (takesP p f ⟨19,a,b⟩).n)=r):Calls Tryz.prog 46 #[.agg #[v1,v2,v3,v4],.agg #[.int .i64 f.pa,u1,u2,u3,u4],.agg #[.int .i64 19,.int .i64 a,.int .i64 b],vs,vr] w (EfR C (efP p f ⟨19,a,b⟩ s) w):=by
 have _u:f.lo.length≤4096∧(∀ k∈s,isKB p.ty.length k=true)∧(takesP p f ⟨19,a,b⟩).n≤s.length∧namesB p f ⟨19,a,b⟩=true∧s.length≤300000000:=⟨F.nl,hks,hn,hN,hsl⟩
 clear _u
 have ht:(takesP p f ⟨19,a,b⟩).n=1:=by simp [takesP,Must.n]
 have hnt:=H.nt
 rw [ht] at hn hr
 obtain ⟨r',x,hs,ht1,hd1⟩:=split1 hn
 rw [ht1] at hr
 subst hr
 have hkx:=hks x (by rw [hs];simp)
 have hkd:=kd_of hnt hkx
 have hrl:r'.length≤300000000:=by rw [hs,List.length_append] at hsl;omega
 unfold efP
 rw [ht,hd1,ht1,fine1]
 rw [show (takesP p f ⟨19,a,b⟩).at 0 0 x=boxB x by simp [takesP,Must.at]]
 rw [show putsP p f ⟨19,a,b⟩ (([x]:List Int).getLast?.getD 0) (([x]:List Int).head?.getD 0)=.ok [1] by simp [putsP]]
 cases hp:ptrB x with
 | true =>
  by_cases hx1:x<1048576
  · rw [show boxB x=true by unfold boxB;unfold ptrB at hp;rw [decide_eq_true_eq] at hp ⊢;exact ⟨hp.1,hp.2,hx1⟩]
    exact ob_19t P hB s1 s2 s3 Rs O hsC hC hrl hs ⟨by have:=hkd.1;omega,hkd.2⟩ hp hx1
  · rw [show boxB x=false by unfold boxB;rw [decide_eq_false_iff_not];exact fun h=>hx1 h.2.2]
    exact ob_19f P hB s1 s2 s3 Rs O hsC hC hrl hs ⟨by have:=hkd.1;omega,hkd.2⟩ hp hx1
 | false =>
  rw [show boxB x=false by unfold boxB;unfold ptrB at hp;rw [decide_eq_false_iff_not] at hp ⊢;exact fun h=>hp ⟨h.1,h.2.1⟩]
  exact ob_19p P hB s1 s2 s3 Rs O hsC hC hrl hs ⟨by have:=hkd.1;omega,hkd.2⟩ hp
theorem oa_17 (P:PgAt B w v1 v2 v3 v4 p) (hB:B≤w.heap.size) (s1:SlAt 1 IntP B w u1 f.lo) (s2:SlAt 1 IntP B w u2 f.re) (s3:SlAt 1 IntP B w u3 f.ar) (H:Hok p) (F:FdOk p f) (Rs:SlAt 1 IntP Bs w vs s) (O:OwI C w vr r) (hsC:Bs≤C) (hC:C≤w.heap.size) (hsl:s.length≤300000000) (hks:∀ k∈s,isKB p.ty.length k=true) (hN:namesB p f ⟨17,a,b⟩=true) (hn:(takesP p f ⟨17,a,b⟩).n≤s.length) (hr:s.take (s.length - (takesP p f ⟨17,a,b⟩).n)=r):Calls Tryz.prog 46 #[.agg #[v1,v2,v3,v4],.agg #[.int .i64 f.pa,u1,u2,u3,u4],.agg #[.int .i64 17,.int .i64 a,.int .i64 b],vs,vr] w (EfR C (efP p f ⟨17,a,b⟩ s) w):=by
 have _u:f.lo.length≤4096∧(∀ k∈s,isKB p.ty.length k=true)∧(takesP p f ⟨17,a,b⟩).n≤s.length∧namesB p f ⟨17,a,b⟩=true∧s.length≤300000000:=⟨F.nl,hks,hn,hN,hsl⟩
 clear _u
 have ht:(takesP p f ⟨17,a,b⟩).n=2:=by simp [takesP,Must.n]
 have hnt:=H.nt
 rw [ht] at hn hr
 obtain ⟨r',x,y,hs,ht1,hd1⟩:=split2 hn
 rw [ht1] at hr
 subst hr
 have hkx:=hks x (by rw [hs];simp)
 have hkd:=kd_of hnt hkx
 have hrl:r'.length≤300000000:=by rw [hs,List.length_append] at hsl;omega
 unfold efP
 rw [ht,hd1,ht1,fine2]
 rw [show (takesP p f ⟨17,a,b⟩).at 0 y x=arrB x by simp [takesP,Must.at],show (takesP p f ⟨17,a,b⟩).at 1 y y=decide (y=0) by simp [takesP,Must.at,exB]]
 rw [show putsP p f ⟨17,a,b⟩ (([x,y]:List Int).getLast?.getD 0) (([x,y]:List Int).head?.getD 0)=.ok [x - 1] by simp [putsP]]
 by_cases hy0:y=0
 · rw [decide_eq_true hy0,Bool.and_true]
   cases hc:arrB x with
   | true=>exact ob_17t P hB s1 s2 s3 Rs O hsC hC hrl hs ⟨by have:=hkd.1;omega,hkd.2⟩ hy0 hc
   | false=>exact ob_17f P hB s1 s2 s3 Rs O hsC hC hrl hs ⟨by have:=hkd.1;omega,hkd.2⟩ hy0 hc
 · rw [decide_eq_false hy0,Bool.and_false]
   exact ob_17y P hB s1 s2 s3 Rs O hsC hC hrl hs ⟨by have:=hkd.1;omega,hkd.2⟩ hy0
theorem oa_14 (P:PgAt B w v1 v2 v3 v4 p) (hB:B≤w.heap.size) (s1:SlAt 1 IntP B w u1 f.lo) (s2:SlAt 1 IntP B w u2 f.re) (s3:SlAt 1 IntP B w u3 f.ar) (H:Hok p) (F:FdOk p f) (Rs:SlAt 1 IntP Bs w vs s) (O:OwI C w vr r) (hsC:Bs≤C) (hC:C≤w.heap.size) (hsl:s.length≤300000000) (hks:∀ k∈s,isKB p.ty.length k=true) (hN:namesB p f ⟨14,a,b⟩=true) (hn:(takesP p f ⟨14,a,b⟩).n≤s.length) (hr:s.take (s.length - (takesP p f ⟨14,a,b⟩).n)=r):Calls Tryz.prog 46 #[.agg #[v1,v2,v3,v4],.agg #[.int .i64 f.pa,u1,u2,u3,u4],.agg #[.int .i64 14,.int .i64 a,.int .i64 b],vs,vr] w (EfR C (efP p f ⟨14,a,b⟩ s) w):=by
 have _u:f.lo.length≤4096∧(∀ k∈s,isKB p.ty.length k=true)∧(takesP p f ⟨14,a,b⟩).n≤s.length∧namesB p f ⟨14,a,b⟩=true∧s.length≤300000000:=⟨F.nl,hks,hn,hN,hsl⟩
 clear _u
 have ht:(takesP p f ⟨14,a,b⟩).n=1:=by simp [takesP,Must.n]
 have hnt:=H.nt
 rw [ht] at hn hr
 obtain ⟨r',x,hs,ht1,hd1⟩:=split1 hn
 rw [ht1] at hr
 subst hr
 have hkx:=hks x (by rw [hs];simp)
 have hkd:=kd_of hnt hkx
 have hrl:r'.length≤300000000:=by rw [hs,List.length_append] at hsl;omega
 unfold efP
 rw [ht,hd1,ht1,fine1]
 rw [show (takesP p f ⟨14,a,b⟩).at 0 0 x=ptrB x by simp [takesP,Must.at]]
 cases hp:ptrB x with
 | false =>
  exact ob_14p P hB s1 s2 s3 Rs O hsC hC hrl hs hkd hp
 | true =>
  obtain ⟨t,hbt,htl⟩:=ptr_type hkx hp
  obtain ⟨l,hl⟩ : ∃ l,p.ty[t]?=some l:=⟨p.ty[t],by simp⟩
  have hfp:fieldP p x a=if inB a l.length then l[a.toNat]? else none:=by
   unfold fieldP
   rw [show ((bareK x - 2) / 2).toNat=t by omega,hl]
   rfl
  rw [show putsP p f ⟨14,a,b⟩ (([x]:List Int).getLast?.getD 0) (([x]:List Int).head?.getD 0)=(match fieldP p x a with | some k=>.ok [k] | none=>.error 11) by simp [putsP];cases fieldP p x a <;> rfl]
  cases hin:inB a l.length with
  | false =>
   rw [hfp,hin]
   exact ob_14r P hB s1 s2 s3 Rs O hsC hC hrl hs hkd hp hbt hl hnt hin
  | true =>
   obtain ⟨n,rfl,hnl⟩:=in_nat hin
   obtain ⟨z,hz⟩ : ∃ z,l[n]?=some z:=⟨l[n],by simp⟩
   rw [hfp,hin,if_pos rfl,Int.toNat_natCast,hz]
   exact ob_14k P hB s1 s2 s3 Rs O hsC hC hrl hs hkd hp hbt hl hnt rfl hin hz
theorem oa_15 (P:PgAt B w v1 v2 v3 v4 p) (hB:B≤w.heap.size) (s1:SlAt 1 IntP B w u1 f.lo) (s2:SlAt 1 IntP B w u2 f.re) (s3:SlAt 1 IntP B w u3 f.ar) (H:Hok p) (F:FdOk p f) (Rs:SlAt 1 IntP Bs w vs s) (O:OwI C w vr r) (hsC:Bs≤C) (hC:C≤w.heap.size) (hsl:s.length≤300000000) (hks:∀ k∈s,isKB p.ty.length k=true) (hN:namesB p f ⟨15,a,b⟩=true) (hn:(takesP p f ⟨15,a,b⟩).n≤s.length) (hr:s.take (s.length - (takesP p f ⟨15,a,b⟩).n)=r):Calls Tryz.prog 46 #[.agg #[v1,v2,v3,v4],.agg #[.int .i64 f.pa,u1,u2,u3,u4],.agg #[.int .i64 15,.int .i64 a,.int .i64 b],vs,vr] w (EfR C (efP p f ⟨15,a,b⟩ s) w):=by
 have _u:f.lo.length≤4096∧(∀ k∈s,isKB p.ty.length k=true)∧(takesP p f ⟨15,a,b⟩).n≤s.length∧namesB p f ⟨15,a,b⟩=true∧s.length≤300000000:=⟨F.nl,hks,hn,hN,hsl⟩
 clear _u
 have ht:(takesP p f ⟨15,a,b⟩).n=2:=by simp [takesP,Must.n]
 have hnt:=H.nt
 rw [ht] at hn hr
 obtain ⟨r',x,y,hs,ht1,hd1⟩:=split2 hn
 rw [ht1] at hr
 subst hr
 have hkx:=hks x (by rw [hs];simp)
 have hkd:=kd_of hnt hkx
 have hrl:r'.length≤300000000:=by rw [hs,List.length_append] at hsl;omega
 unfold efP
 rw [ht,hd1,ht1,fine2]
 rw [show (takesP p f ⟨15,a,b⟩).at 0 y x=ptrB x by simp [takesP,Must.at],show (takesP p f ⟨15,a,b⟩).at 1 y y=true by simp [takesP,Must.at,anyB],Bool.and_true]
 cases hp:ptrB x with
 | false =>
  exact ob_15p P hB s1 s2 s3 Rs O hsC hC hrl hs hkd hp
 | true =>
  obtain ⟨t,hbt,htl⟩:=ptr_type hkx hp
  obtain ⟨l,hl⟩ : ∃ l,p.ty[t]?=some l:=⟨p.ty[t],by simp⟩
  have hfp:fieldP p x a=if inB a l.length then l[a.toNat]? else none:=by
   unfold fieldP
   rw [show ((bareK x - 2) / 2).toNat=t by omega,hl]
   rfl
  rw [show putsP p f ⟨15,a,b⟩ (([x,y]:List Int).getLast?.getD 0) (([x,y]:List Int).head?.getD 0)=(match fieldP p x a with | some k=>if k=y then .ok [] else .error 8 | none=>.error 11) by simp [putsP];cases fieldP p x a <;> rfl]
  cases hin:inB a l.length with
  | false =>
   rw [hfp,hin]
   exact ob_15r P hB s1 s2 s3 Rs O hsC hC hrl hs hkd hp hbt hl hnt hin
  | true =>
   obtain ⟨n,rfl,hnl⟩:=in_nat hin
   obtain ⟨z,hz⟩ : ∃ z,l[n]?=some z:=⟨l[n],by simp⟩
   rw [hfp,hin,if_pos rfl,Int.toNat_natCast,hz]
   dsimp only
   by_cases hyz:z=y
   · rw [if_pos hyz]
     dsimp only [EfR]
     rw [List.append_nil]
     exact ob_15t P hB s1 s2 s3 Rs O hsC hC hrl hs hkd hp hbt hl hnt rfl hin hz hyz.symm
   · rw [if_neg hyz]
     exact ob_15f P hB s1 s2 s3 Rs O hsC hC hrl hs hkd hp hbt hl hnt rfl hin hz (fun h=>hyz h.symm)
theorem oa_16 (P:PgAt B w v1 v2 v3 v4 p) (hB:B≤w.heap.size) (s1:SlAt 1 IntP B w u1 f.lo) (s2:SlAt 1 IntP B w u2 f.re) (s3:SlAt 1 IntP B w u3 f.ar) (H:Hok p) (F:FdOk p f) (Rs:SlAt 1 IntP Bs w vs s) (O:OwI C w vr r) (hsC:Bs≤C) (hC:C≤w.heap.size) (hsl:s.length≤300000000) (hks:∀ k∈s,isKB p.ty.length k=true) (hN:namesB p f ⟨16,a,b⟩=true) (hn:(takesP p f ⟨16,a,b⟩).n≤s.length) (hr:s.take (s.length - (takesP p f ⟨16,a,b⟩).n)=r):Calls Tryz.prog 46 #[.agg #[v1,v2,v3,v4],.agg #[.int .i64 f.pa,u1,u2,u3,u4],.agg #[.int .i64 16,.int .i64 a,.int .i64 b],vs,vr] w (EfR C (efP p f ⟨16,a,b⟩ s) w):=by
 have _u:f.lo.length≤4096∧(∀ k∈s,isKB p.ty.length k=true)∧(takesP p f ⟨16,a,b⟩).n≤s.length∧namesB p f ⟨16,a,b⟩=true∧s.length≤300000000:=⟨F.nl,hks,hn,hN,hsl⟩
 clear _u
 have ht:(takesP p f ⟨16,a,b⟩).n=1:=by simp [takesP,Must.n]
 have hnt:=H.nt
 rw [ht] at hn hr
 obtain ⟨r',x,hs,ht1,hd1⟩:=split1 hn
 rw [ht1] at hr
 subst hr
 have hkx:=hks x (by rw [hs];simp)
 have hkd:=kd_of hnt hkx
 have hrl:r'.length≤300000000:=by rw [hs,List.length_append] at hsl;omega
 unfold efP
 rw [ht,hd1,ht1,fine1]
 rw [show (takesP p f ⟨16,a,b⟩).at 0 0 x=ptrB x by simp [takesP,Must.at]]
 cases hp:ptrB x with
 | false =>
  exact ob_16p P hB s1 s2 s3 Rs O hsC hC hrl hs hkd hp
 | true =>
  obtain ⟨t,hbt,htl⟩:=ptr_type hkx hp
  obtain ⟨l,hl⟩ : ∃ l,p.ty[t]?=some l:=⟨p.ty[t],by simp⟩
  have hfp:fieldP p x a=if inB a l.length then l[a.toNat]? else none:=by
   unfold fieldP
   rw [show ((bareK x - 2) / 2).toNat=t by omega,hl]
   rfl
  rw [show putsP p f ⟨16,a,b⟩ (([x]:List Int).getLast?.getD 0) (([x]:List Int).head?.getD 0)=(match fieldP p x a with | some k=>if onlyB p b k then .ok [locK x+2+2*b] else .error 11 | none=>.error 11) by simp [putsP];cases fieldP p x a <;> rfl]
  cases hin:inB a l.length with
  | false =>
   rw [hfp,hin]
   exact ob_16r P hB s1 s2 s3 Rs O hsC hC hrl hs hkd hp hbt hl hnt hin
  | true =>
   obtain ⟨n,rfl,hnl⟩:=in_nat hin
   obtain ⟨z,hz⟩ : ∃ z,l[n]?=some z:=⟨l[n],by simp⟩
   rw [hfp,hin,if_pos rfl,Int.toNat_natCast,hz]
   dsimp only
   have hbin:inB b p.ty.length=true:=by simpa [namesB] using hN
   obtain ⟨nb,hnb,hnbl⟩:=in_nat hbin
   cases ho:onlyB p b z with
   | true =>
    rw [if_pos rfl]
    rw [show locK x+2+2*b=2+2*b+locK x by omega]
    exact ob_16t P hB s1 s2 s3 Rs O hsC hC hrl hs hkd hp hbt hl hnt rfl hin hz (by rw [hbin,ho];rfl) ⟨by omega,by omega⟩
   | false =>
    rw [if_neg (by simp)]
    exact ob_16f P hB s1 s2 s3 Rs O hsC hC hrl hs hkd hp hbt hl hnt rfl hin hz (by rw [ho,Bool.and_false])
end
end Go.Proofs.YtkdojpnihinpbaaGreatDoor

namespace Go.Proofs.YtkdojpnihinpbaaGreatDoor
open Go.RowKit
section
variable {B Bs:Nat} {w:World} {p:Pg} {f:Fd} {a b:Int} {v1 v2 v3 v4 u1 u2 u3 u4 vs:Value} {s r:List Int}
set_option maxRecDepth 100000 in
set_option maxHeartbeats 8000000 in
theorem ef_obj {o:Int} (P:PgAt B w v1 v2 v3 v4 p) (hB:B≤w.heap.size) (s1:SlAt 1 IntP B w u1 f.lo) (s2:SlAt 1 IntP B w u2 f.re) (s3:SlAt 1 IntP B w u3 f.ar) (s4:SlAt 3 InsP B w u4 f.co) (H:Hok p) (Rs:SlAt 1 IntP Bs w vs s) (hsB:Bs≤w.heap.size) (hsl:s.length≤300000000) {ks:List Int} {kn:Nat} (h1:(o == 1)=false) (h2:(o == 2)=false) (h3:(o == 3)=false) (h4:(o == 4)=false) (h6:(o == 6)=false) (h7:(o == 7)=false) (h8:(o == 8)=false) (h10:(o == 10)=false) (h25:(o == 25)=false) (h26:(o == 26)=false) (h27:(o == 27)=false) (h22:(o == 22)=false) (h23:(o == 23)=false) (h24:(o == 24)=false) (h9:(o == 9)=false) (h28:(o == 28)=false) (h5:(o == 5)=false) (ho:1≤o∧o≤29) (hN:namesB p f ⟨o,a,b⟩=true) (hs:s=r++ks) (hkl:ks.length=kn) (hkn:(takesP p f ⟨o,a,b⟩).n=kn) (hoa:∀ (W:World) (vr:Value) (C:Nat),PgAt B W v1 v2 v3 v4 p→B≤W.heap.size→SlAt 1 IntP B W u1 f.lo→SlAt 1 IntP B W u2 f.re→SlAt 1 IntP B W u3 f.ar→SlAt 1 IntP Bs W vs s→OwI C W vr r→Bs≤C→C≤W.heap.size→Calls Tryz.prog 46 #[.agg #[v1,v2,v3,v4],.agg #[.int .i64 f.pa,u1,u2,u3,u4],.agg #[.int .i64 o,.int .i64 a,.int .i64 b],vs,vr] W (EfR C (efP p f ⟨o,a,b⟩ s) W)):Calls Tryz.prog 27 #[.agg #[v1,v2,v3,v4],.agg #[.int .i64 f.pa,u1,u2,u3,u4],.agg #[.int .i64 o,.int .i64 a,.int .i64 b],vs] w (EfR w.heap.size (efP p f ⟨o,a,b⟩ s) w):=by
 obtain ⟨b4,x4,hu4⟩:=sl_form s4
 subst hu4
 obtain ⟨⟨a1,d1,rfl⟩,⟨a2,d2,rfl⟩,⟨a3,d3,rfl⟩,a4,d4,rfl⟩:=fm4 P
 obtain ⟨⟨b1,x1,rfl⟩,⟨b2,x2,rfl⟩,b3,x3,rfl⟩:=fm3 s1 s2 s3
 have R:=Rx.new (i:=⟨o,a,b⟩) (u4:=.slice b4 f.co.length x4) P hB s1 s2 s3
 dsimp only at R
 obtain ⟨W1,hW1⟩:=exR R
 rw [hW1] at R
 obtain ⟨c00,c01,c02,c03⟩:=R.c0
 obtain ⟨c10,c11,c12,c13⟩:=R.c1
 obtain ⟨c20,c21,c22⟩:=R.c2
 obtain ⟨l0,l1,l2⟩:=R.lt
 dsimp only at c20 c21 c22
 have HR:=hide R
 have c14:W1.cell? ⟨w.heap.size+1,4,none⟩=some (.slice b4 f.co.length x4):=cell_of R.e1 rfl
 clear P s1 s2 s3 s4
 have b1:=R.bel
 obtain ⟨sa,ds,hvs⟩:=sl_form Rs
 subst hvs
 have HND:=hide (needs_any (i:=⟨o,a,b⟩) (u4:=.slice b4 f.co.length x4) R.pg (Nat.le_trans R.hB b1.size) R.lo R.re R.ar H ho hN)
 dsimp only at HND
 rw [hkn] at HND
 have HRS:=hide (show ∀ W:World,Below w.heap.size w W→SlAt 1 IntP Bs W (.slice sa s.length ds) s from fun W h=>ints_keep (Nat.le_refl _) (fun j hj=>h.block j (by omega)) Rs)
 have hcap:s.length≤ds:=by
  obtain ⟨_,_,hv,h,_⟩:=Rs
  cases hv
  exact h.2.1
 obtain ⟨L,hL⟩ : ∃ L,s.length=L:=⟨_,rfl⟩
 obtain ⟨rl,hrl⟩ : ∃ l,r.length=l:=⟨_,rfl⟩
 have hLr:L=rl+kn:=by rw [← hL,hs,← hrl,List.length_append,hkl]
 rw [hL] at HRS hcap hsl hoa ⊢
 have HTK:=hide (show s.take rl=r from by rw [hs,← hrl];simp)
 have hwn:IntKind.i64.wrap ((L:Int) - (kn:Int))=(rl:Int):=by
  rw [show (L:Int) - (kn:Int)=(rl:Int) by omega]
  exact wrap_nat (by omega)
 have hrd:rl≤ds:=by omega
 have hrd2:(rl:Int)≤(ds:Int):=by omega
 have HHL:=hide hL
 have HRLN:=hide hrl
 have HHS:=hide hs
 have HLR:=hide hLr
 have hrl3:rl≤300000000:=by omega
 have hrlL0:rl≤L:=by omega
 clear Rs hs hL hrl hLr
 go_enter Tryz.func27,Tryz.ntmps27
 go_wp2_with fail
 refine HND.out.mono ?_
 rintro e w2 ⟨rfl,hb2⟩
 have HR2:=hide (HR.out.up hb2)
 have hbw:=HR2.out.bel
 have hB2:Bs≤w2.heap.size:=Nat.le_trans hsB hbw.size
 have c3:Below w2.heap.size w2 (w2.alloc (.cells #[] 3)):=(Below.refl _ _).alloc (Nat.le_refl _) _
 have R3:SlAt 1 IntP Bs (w2.alloc (.cells #[] 3)) (.slice sa rl ds) r:=by
  have h:=HRS.out (w2.alloc (.cells #[] 3)) (bel_tr hbw c3)
  rw [← HHL.out] at h
  have h2:=sl_take h (n:=rl) (by rw [HHL.out];exact hrlL0)
  rw [HTK.out] at h2
  exact h2
 obtain ⟨a5,c5,W5,r5,q5,q6⟩:=(OwI.new (heap_new w2 (.cells #[] 3) rfl)).app R3 (by rw [HRLN.out];simp;omega) (Nat.le_of_lt (lt_of_block (heap_new w2 (.cells #[] 3) rfl)))
 rw [List.nil_append,HRLN.out] at r5 q5
 have HO5:=hide q5
 have HB5:=hide (show Below w2.heap.size w2 W5 from c3.trans q6)
 have HR5:=hide (HR2.out.up HB5.out)
 have HBW:=hide (show Below w.heap.size w W5 from bel_tr hbw HB5.out)
 have hC5:w2.heap.size≤W5.heap.size:=HB5.out.size
 have h2w:w.heap.size≤w2.heap.size:=hbw.size
 clear hb2 c3 R3 q5 q6 hbw
 by_cases h0:L=0
 · have dL:decide (0<L)=false:=by simp;omega
   have dL2:decide ((0:Int)<(L:Int))=false:=by simp;omega
   clear h0
   obtain ⟨k00,k01,k02,k03⟩:=HR5.out.c0
   obtain ⟨k10,k11,k12,k13⟩:=HR5.out.c1
   obtain ⟨k20,k21,k22⟩:=HR5.out.c2
   have k14:W5.cell? ⟨w.heap.size+1,4,none⟩=some (.slice b4 f.co.length x4):=cell_of HR5.out.e1 rfl
   obtain ⟨l50,l51,l52⟩:=HR5.out.lt
   dsimp only at k20 k21 k22
   clear c00 c01 c02 c03 c10 c11 c12 c13 c14 c20 c21 c22
   have HOA:=hide (hoa W5 (.slice a5 rl c5) w2.heap.size HR5.out.pg (Nat.le_trans HR5.out.hB HR5.out.bel.size) HR5.out.lo HR5.out.re HR5.out.ar (HRS.out W5 HBW.out) HO5.out hB2 hC5)
   have HUP:=hide (show ∀ W,Below w2.heap.size W5 W→Below w.heap.size w W from fun W h=>HBW.out.trans (h.mono h2w))
   clear hoa
   generalize efP p f ⟨o,a,b⟩ s=res at *
   cases res with
   | ok l =>
    go_wp2_with (at_builtin;(refine wpList_append_eq rfl _ _ 37 37 rfl rfl rfl r5 ?_;clear r5))
    refine HOA.out.mono ?_
    rintro e w9 ⟨hb9,a9,c9,rfl,hs9⟩
    have HFIN:=hide (show EfR w.heap.size (.ok l) w (.returned (.tuple #[.slice a9 l.length c9,.int .i64 0])) w9 from ⟨HUP.out _ hb9,a9,c9,rfl,hs9.weak h2w⟩)
    clear hb9 hs9
    go_wp2_with fail
    go_ret2
    exact HFIN.out
   | error c =>
    go_wp2_with (at_builtin;(refine wpList_append_eq rfl _ _ 37 37 rfl rfl rfl r5 ?_;clear r5))
    refine HOA.out.mono ?_
    rintro e w9 ⟨hb9,rfl⟩
    have HFIN:=hide (show EfR w.heap.size (.error c) w (.returned (.tuple #[.slice none 0 0,.int .i64 c])) w9 from ⟨HUP.out _ hb9,rfl⟩)
    clear hb9
    go_wp2_with fail
    go_ret2
    exact HFIN.out
 · obtain ⟨q,hq⟩ : ∃ q,L - 1=q:=⟨_,rfl⟩
   obtain ⟨y,hy⟩ : ∃ y,s[q]?=some y:=⟨s[q]'(by rw [HHL.out];omega),by simp⟩
   have RS5:=HRS.out W5 HBW.out
   rw [← HHL.out] at RS5
   obtain ⟨g,og,c,hv,hg,hcy,_,_⟩:=il_at RS5 hy
   cases hv
   have hgw:=Nat.lt_of_lt_of_le hg (Nat.le_trans hB2 hC5)
   have hql:q<L:=by omega
   have dq:decide (q<L)=true:=by simpa using hql
   have dL:decide (0<L)=true:=by simp;omega
   have dL2:decide ((0:Int)<(L:Int))=true:=by simp;omega
   have hwq:IntKind.i64.wrap ((L:Int) - 1)=(q:Int):=by
    rw [show (L:Int) - 1=(q:Int) by omega]
    exact wrap_nat (by omega)
   clear hy hq RS5 h0
   obtain ⟨k00,k01,k02,k03⟩:=HR5.out.c0
   obtain ⟨k10,k11,k12,k13⟩:=HR5.out.c1
   obtain ⟨k20,k21,k22⟩:=HR5.out.c2
   have k14:W5.cell? ⟨w.heap.size+1,4,none⟩=some (.slice b4 f.co.length x4):=cell_of HR5.out.e1 rfl
   obtain ⟨l50,l51,l52⟩:=HR5.out.lt
   dsimp only at k20 k21 k22
   clear c00 c01 c02 c03 c10 c11 c12 c13 c14 c20 c21 c22
   have HOA:=hide (hoa W5 (.slice a5 rl c5) w2.heap.size HR5.out.pg (Nat.le_trans HR5.out.hB HR5.out.bel.size) HR5.out.lo HR5.out.re HR5.out.ar (HRS.out W5 HBW.out) HO5.out hB2 hC5)
   have HUP:=hide (show ∀ W,Below w2.heap.size W5 W→Below w.heap.size w W from fun W h=>HBW.out.trans (h.mono h2w))
   clear hoa
   generalize efP p f ⟨o,a,b⟩ s=res at *
   cases res with
   | ok l =>
    go_wp2_with (at_builtin;(refine wpList_append_eq rfl _ _ 37 37 rfl rfl rfl r5 ?_;clear r5))
    refine HOA.out.mono ?_
    rintro e w9 ⟨hb9,a9,c9,rfl,hs9⟩
    have HFIN:=hide (show EfR w.heap.size (.ok l) w (.returned (.tuple #[.slice a9 l.length c9,.int .i64 0])) w9 from ⟨HUP.out _ hb9,a9,c9,rfl,hs9.weak h2w⟩)
    clear hb9 hs9
    go_wp2_with fail
    go_ret2
    exact HFIN.out
   | error c =>
    go_wp2_with (at_builtin;(refine wpList_append_eq rfl _ _ 37 37 rfl rfl rfl r5 ?_;clear r5))
    refine HOA.out.mono ?_
    rintro e w9 ⟨hb9,rfl⟩
    have HFIN:=hide (show EfR w.heap.size (.error c) w (.returned (.tuple #[.slice none 0 0,.int .i64 c])) w9 from ⟨HUP.out _ hb9,rfl⟩)
    clear hb9
    go_wp2_with fail
    go_ret2
    exact HFIN.out
end
end Go.Proofs.YtkdojpnihinpbaaGreatDoor
