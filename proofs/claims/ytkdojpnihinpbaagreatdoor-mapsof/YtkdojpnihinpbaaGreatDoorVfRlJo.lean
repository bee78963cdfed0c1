/- The document's effect, whole. -/
import Derived.Test.YtkdojpnihinpbaaGreatDoorVfRjJo
import Derived.Test.YtkdojpnihinpbaaGreatDoorVfRiJo
import Derived.Test.YtkdojpnihinpbaaGreatDoorVfRfaJo
import Derived.Test.YtkdojpnihinpbaaGreatDoorVfRfbJo
import Derived.Test.YtkdojpnihinpbaaGreatDoorVfRfcJo
import Derived.Test.YtkdojpnihinpbaaGreatDoorVfRfdJo
namespace Go.Proofs.YtkdojpnihinpbaaGreatDoor
open Go.RowKit
theorem fit0 {x k:Int} (hk:k=0∨k=1):fitB x k=decide (x=k):=by
 unfold fitB bareK
 rcases hk with rfl | rfl <;> simp
theorem fine_snoc {l s:List Int} {y:Int} (hs:l.length+1≤s.length) (hy:s[s.length - 1]?=some y):(Must.fit (l++[0])).fine (s.drop (s.length - (l.length+1)))=((Must.fit l).fine ((s.take (s.length - 1)).drop (s.length - 1 - l.length)) && decide (y=0)):=by
 have h1:=fine_fit (s:=s) (t:=l++[0]) (by simp;omega)
 have h2:=fine_fit (s:=s.take (s.length - 1)) (t:=l) (by rw [List.length_take];omega)
 rw [List.length_append,List.length_singleton] at h1
 rw [List.length_take,show min (s.length - 1) s.length=s.length - 1 by omega] at h2
 rw [Bool.eq_iff_iff,Bool.and_eq_true,h1,h2,decide_eq_true_eq]
 constructor
 · intro h
   refine ⟨fun k hk=>?_,?_⟩
   · have:=h k (by omega)
     rw [List.getElem?_append_left hk] at this
     rw [List.getElem?_take,if_pos (by omega),show s.length - 1 - l.length+k=s.length - (l.length+1)+k by omega]
     exact this
   · have:=h l.length (by omega)
     rw [List.getElem?_append_right (Nat.le_refl _),Nat.sub_self,show s.length - (l.length+1)+l.length=s.length - 1 by omega,hy] at this
     have h3:fitB y 0=true:=this
     rw [fit0 (.inl rfl),decide_eq_true_eq] at h3
     exact h3
 · rintro ⟨h,h0⟩ k hk
   rcases Nat.lt_or_ge k l.length with hlt | hge
   · have:=h k hlt
     rw [List.getElem?_append_left hlt]
     rw [List.getElem?_take,if_pos (by omega),show s.length - 1 - l.length+k=s.length - (l.length+1)+k by omega] at this
     exact this
   · obtain rfl:k=l.length:=by omega
     rw [List.getElem?_append_right (Nat.le_refl _),Nat.sub_self,show s.length - (l.length+1)+l.length=s.length - 1 by omega,hy]
     show fitB y 0=true
     rw [fit0 (.inl rfl),decide_eq_true_eq]
     exact h0
section
variable {B Bs:Nat} {w:World} {p:Pg} {f:Fd} {a b:Int} {v1 v2 v3 v4 u1 u2 u3 u4 vs:Value} {s:List Int}
theorem ea_1 (P:PgAt B w v1 v2 v3 v4 p) (hB:B≤w.heap.size) (s1:SlAt 1 IntP B w u1 f.lo) (s2:SlAt 1 IntP B w u2 f.re) (s3:SlAt 1 IntP B w u3 f.ar) (s4:SlAt 3 InsP B w u4 f.co) (H:Hok p) (Rs:SlAt 1 IntP Bs w vs s) (hsB:Bs≤w.heap.size) (hsl:s.length≤300000000) (F:FdOk p f) (hks:∀ k∈s,isKB p.ty.length k=true) (hN:namesB p f ⟨1,a,b⟩=true) (hab : -9223372036854775808≤a∧a≤9223372036854775807) (hn:(takesP p f ⟨1,a,b⟩).n≤s.length):Calls Tryz.prog 27 #[.agg #[v1,v2,v3,v4],.agg #[.int .i64 f.pa,u1,u2,u3,u4],.agg #[.int .i64 1,.int .i64 a,.int .i64 b],vs] w (EfR w.heap.size (efP p f ⟨1,a,b⟩ s) w):=by
 have _u:f.lo.length≤4096∧(∀ k∈s,isKB p.ty.length k=true)∧(takesP p f ⟨1,a,b⟩).n≤s.length∧namesB p f ⟨1,a,b⟩=true∧-9223372036854775808≤a:=⟨F.nl,hks,hn,hN,hab.1⟩
 clear _u
 have hnt:=H.nt
 have ht:(takesP p f ⟨1,a,b⟩).n=0:=by simp [takesP,Must.n]
 have hs0:s=s++[]:=by simp
 unfold efP
 rw [ht,Nat.sub_zero,List.take_length,List.drop_length]
 simp only [takesP,putsP,Must.fine]
 simp
 exact ef_1 P hB s1 s2 s3 s4 H Rs hsB hsl hs0
theorem ea_2 (P:PgAt B w v1 v2 v3 v4 p) (hB:B≤w.heap.size) (s1:SlAt 1 IntP B w u1 f.lo) (s2:SlAt 1 IntP B w u2 f.re) (s3:SlAt 1 IntP B w u3 f.ar) (s4:SlAt 3 InsP B w u4 f.co) (H:Hok p) (Rs:SlAt 1 IntP Bs w vs s) (hsB:Bs≤w.heap.size) (hsl:s.length≤300000000) (F:FdOk p f) (hks:∀ k∈s,isKB p.ty.length k=true) (hN:namesB p f ⟨2,a,b⟩=true) (hab : -9223372036854775808≤a∧a≤9223372036854775807) (hn:(takesP p f ⟨2,a,b⟩).n≤s.length):Calls Tryz.prog 27 #[.agg #[v1,v2,v3,v4],.agg #[.int .i64 f.pa,u1,u2,u3,u4],.agg #[.int .i64 2,.int .i64 a,.int .i64 b],vs] w (EfR w.heap.size (efP p f ⟨2,a,b⟩ s) w):=by
 have _u:f.lo.length≤4096∧(∀ k∈s,isKB p.ty.length k=true)∧(takesP p f ⟨2,a,b⟩).n≤s.length∧namesB p f ⟨2,a,b⟩=true∧-9223372036854775808≤a:=⟨F.nl,hks,hn,hN,hab.1⟩
 clear _u
 have hnt:=H.nt
 have ht:(takesP p f ⟨2,a,b⟩).n=0:=by simp [takesP,Must.n]
 have hs0:s=s++[]:=by simp
 unfold efP
 rw [ht,Nat.sub_zero,List.take_length,List.drop_length]
 simp only [takesP,putsP,Must.fine]
 simp
 exact ef_2 P hB s1 s2 s3 s4 H Rs hsB hsl hs0 hN hab
theorem ea_3 (P:PgAt B w v1 v2 v3 v4 p) (hB:B≤w.heap.size) (s1:SlAt 1 IntP B w u1 f.lo) (s2:SlAt 1 IntP B w u2 f.re) (s3:SlAt 1 IntP B w u3 f.ar) (s4:SlAt 3 InsP B w u4 f.co) (H:Hok p) (Rs:SlAt 1 IntP Bs w vs s) (hsB:Bs≤w.heap.size) (hsl:s.length≤300000000) (F:FdOk p f) (hks:∀ k∈s,isKB p.ty.length k=true) (hN:namesB p f ⟨3,a,b⟩=true) (hab : -9223372036854775808≤a∧a≤9223372036854775807) (hn:(takesP p f ⟨3,a,b⟩).n≤s.length):Calls Tryz.prog 27 #[.agg #[v1,v2,v3,v4],.agg #[.int .i64 f.pa,u1,u2,u3,u4],.agg #[.int .i64 3,.int .i64 a,.int .i64 b],vs] w (EfR w.heap.size (efP p f ⟨3,a,b⟩ s) w):=by
 have _u:f.lo.length≤4096∧(∀ k∈s,isKB p.ty.length k=true)∧(takesP p f ⟨3,a,b⟩).n≤s.length∧namesB p f ⟨3,a,b⟩=true∧-9223372036854775808≤a:=⟨F.nl,hks,hn,hN,hab.1⟩
 clear _u
 have hnt:=H.nt
 have ht:(takesP p f ⟨3,a,b⟩).n=0:=by simp [takesP,Must.n]
 have hs0:s=s++[]:=by simp
 unfold efP
 rw [ht,Nat.sub_zero,List.take_length,List.drop_length]
 have hin:inB a f.lo.length=true:=by simpa [namesB] using hN
 obtain ⟨n,rfl,hnl⟩:=in_nat hin
 obtain ⟨k,hk⟩ : ∃ k,f.lo[n]?=some k:=⟨f.lo[n],by simp⟩
 simp only [takesP,putsP,Must.fine]
 simp [hk]
 exact ef_3 P hB s1 s2 s3 s4 H Rs hsB hsl hs0 hN rfl hk
theorem ea_9 (P:PgAt B w v1 v2 v3 v4 p) (hB:B≤w.heap.size) (s1:SlAt 1 IntP B w u1 f.lo) (s2:SlAt 1 IntP B w u2 f.re) (s3:SlAt 1 IntP B w u3 f.ar) (s4:SlAt 3 InsP B w u4 f.co) (H:Hok p) (Rs:SlAt 1 IntP Bs w vs s) (hsB:Bs≤w.heap.size) (hsl:s.length≤300000000) (F:FdOk p f) (hks:∀ k∈s,isKB p.ty.length k=true) (hN:namesB p f ⟨9,a,b⟩=true) (hab : -9223372036854775808≤a∧a≤9223372036854775807) (hn:(takesP p f ⟨9,a,b⟩).n≤s.length):Calls Tryz.prog 27 #[.agg #[v1,v2,v3,v4],.agg #[.int .i64 f.pa,u1,u2,u3,u4],.agg #[.int .i64 9,.int .i64 a,.int .i64 b],vs] w (EfR w.heap.size (efP p f ⟨9,a,b⟩ s) w):=by
 have _u:f.lo.length≤4096∧(∀ k∈s,isKB p.ty.length k=true)∧(takesP p f ⟨9,a,b⟩).n≤s.length∧namesB p f ⟨9,a,b⟩=true∧-9223372036854775808≤a:=⟨F.nl,hks,hn,hN,hab.1⟩
 clear _u
 have hnt:=H.nt
 have ht:(takesP p f ⟨9,a,b⟩).n=0:=by simp [takesP,Must.n]
 have hs0:s=s++[]:=by simp
 unfold efP
 rw [ht,Nat.sub_zero,List.take_length,List.drop_length]
 simp only [takesP,putsP,Must.fine]
 simp
 exact ef_9 P hB s1 s2 s3 s4 H Rs hsB hsl hs0
theorem ea_28 (P:PgAt B w v1 v2 v3 v4 p) (hB:B≤w.heap.size) (s1:SlAt 1 IntP B w u1 f.lo) (s2:SlAt 1 IntP B w u2 f.re) (s3:SlAt 1 IntP B w u3 f.ar) (s4:SlAt 3 InsP B w u4 f.co) (H:Hok p) (Rs:SlAt 1 IntP Bs w vs s) (hsB:Bs≤w.heap.size) (hsl:s.length≤300000000) (F:FdOk p f) (hks:∀ k∈s,isKB p.ty.length k=true) (hN:namesB p f ⟨28,a,b⟩=true) (hab : -9223372036854775808≤a∧a≤9223372036854775807) (hn:(takesP p f ⟨28,a,b⟩).n≤s.length):Calls Tryz.prog 27 #[.agg #[v1,v2,v3,v4],.agg #[.int .i64 f.pa,u1,u2,u3,u4],.agg #[.int .i64 28,.int .i64 a,.int .i64 b],vs] w (EfR w.heap.size (efP p f ⟨28,a,b⟩ s) w):=by
 have _u:f.lo.length≤4096∧(∀ k∈s,isKB p.ty.length k=true)∧(takesP p f ⟨28,a,b⟩).n≤s.length∧namesB p f ⟨28,a,b⟩=true∧-9223372036854775808≤a:=⟨F.nl,hks,hn,hN,hab.1⟩
 clear _u
 have hnt:=H.nt
 have ht:(takesP p f ⟨28,a,b⟩).n=0:=by simp [takesP,Must.n]
 have hs0:s=s++[]:=by simp
 unfold efP
 rw [ht,Nat.sub_zero,List.take_length,List.drop_length]
 simp only [takesP,putsP,Must.fine]
 simp
 exact ef_28 P hB s1 s2 s3 s4 H Rs hsB hsl hs0
theorem ea_4 (P:PgAt B w v1 v2 v3 v4 p) (hB:B≤w.heap.size) (s1:SlAt 1 IntP B w u1 f.lo) (s2:SlAt 1 IntP B w u2 f.re) (s3:SlAt 1 IntP B w u3 f.ar) (s4:SlAt 3 InsP B w u4 f.co) (H:Hok p) (Rs:SlAt 1 IntP Bs w vs s) (hsB:Bs≤w.heap.size) (hsl:s.length≤300000000) (F:FdOk p f) (hks:∀ k∈s,isKB p.ty.length k=true) (hN:namesB p f ⟨4,a,b⟩=true) (hab : -9223372036854775808≤a∧a≤9223372036854775807) (hn:(takesP p f ⟨4,a,b⟩).n≤s.length):Calls Tryz.prog 27 #[.agg #[v1,v2,v3,v4],.agg #[.int .i64 f.pa,u1,u2,u3,u4],.agg #[.int .i64 4,.int .i64 a,.int .i64 b],vs] w (EfR w.heap.size (efP p f ⟨4,a,b⟩ s) w):=by
 have _u:f.lo.length≤4096∧(∀ k∈s,isKB p.ty.length k=true)∧(takesP p f ⟨4,a,b⟩).n≤s.length∧namesB p f ⟨4,a,b⟩=true∧-9223372036854775808≤a:=⟨F.nl,hks,hn,hN,hab.1⟩
 clear _u
 have hin:inB a f.lo.length=true:=by simpa [namesB] using hN
 obtain ⟨n,rfl,hnl⟩:=in_nat hin
 obtain ⟨k,hk⟩ : ∃ k,f.lo[n]?=some k:=⟨f.lo[n],by simp⟩
 have hnt:=H.nt
 have ht:(takesP p f ⟨4,(n:Int),b⟩).n=1:=by simp [takesP,Must.n]
 rw [ht] at hn
 obtain ⟨r,x,hs,ht1,hd1⟩:=split1 hn
 have hkd:=kd_of hnt (hks x (by rw [hs];simp))
 unfold efP
 rw [ht,hd1,ht1,fine1]
 rw [show (takesP p f ⟨4,(n:Int),b⟩).at 0 0 x=fitB x k by simp [takesP,Must.at,hk]]
 rw [show putsP p f ⟨4,(n:Int),b⟩ (([x]:List Int).getLast?.getD 0) (([x]:List Int).head?.getD 0)=.ok [] by simp [putsP]]
 cases hc:fitB x k with
 | true =>
  simp only [Bool.true_eq_false,if_false,List.append_nil]
  exact ef_4t P hB s1 s2 s3 s4 H Rs hsB hsl hs hN rfl hk hkd hc
 | false=>exact ef_4f P hB s1 s2 s3 s4 H Rs hsB hsl hs hN rfl hk hkd hc
theorem ea_5 (P:PgAt B w v1 v2 v3 v4 p) (hB:B≤w.heap.size) (s1:SlAt 1 IntP B w u1 f.lo) (s2:SlAt 1 IntP B w u2 f.re) (s3:SlAt 1 IntP B w u3 f.ar) (s4:SlAt 3 InsP B w u4 f.co) (H:Hok p) (Rs:SlAt 1 IntP Bs w vs s) (hsB:Bs≤w.heap.size) (hsl:s.length≤300000000) (F:FdOk p f) (hks:∀ k∈s,isKB p.ty.length k=true) (hN:namesB p f ⟨5,a,b⟩=true) (hab : -9223372036854775808≤a∧a≤9223372036854775807) (hn:(takesP p f ⟨5,a,b⟩).n≤s.length):Calls Tryz.prog 27 #[.agg #[v1,v2,v3,v4],.agg #[.int .i64 f.pa,u1,u2,u3,u4],.agg #[.int .i64 5,.int .i64 a,.int .i64 b],vs] w (EfR w.heap.size (efP p f ⟨5,a,b⟩ s) w):=by
 have _u:f.lo.length≤4096∧(∀ k∈s,isKB p.ty.length k=true)∧(takesP p f ⟨5,a,b⟩).n≤s.length∧namesB p f ⟨5,a,b⟩=true∧-9223372036854775808≤a:=⟨F.nl,hks,hn,hN,hab.1⟩
 clear _u
 have hnt:=H.nt
 have ht:(takesP p f ⟨5,a,b⟩).n=1:=by simp [takesP,Must.n]
 rw [ht] at hn
 obtain ⟨r,x,hs,ht1,hd1⟩:=split1 hn
 have hkd:=kd_of hnt (hks x (by rw [hs];simp))
 unfold efP
 rw [ht,hd1,ht1,fine1]
 rw [show (takesP p f ⟨5,a,b⟩).at 0 0 x=true by simp [takesP,Must.at,anyB]]
 rw [show putsP p f ⟨5,a,b⟩ (([x]:List Int).getLast?.getD 0) (([x]:List Int).head?.getD 0)=.ok [] by simp [putsP]]
 simp only [Bool.true_eq_false,if_false,List.append_nil]
 exact ef_5 P hB s1 s2 s3 s4 H Rs hsB hsl hs
theorem ea_6 (P:PgAt B w v1 v2 v3 v4 p) (hB:B≤w.heap.size) (s1:SlAt 1 IntP B w u1 f.lo) (s2:SlAt 1 IntP B w u2 f.re) (s3:SlAt 1 IntP B w u3 f.ar) (s4:SlAt 3 InsP B w u4 f.co) (H:Hok p) (Rs:SlAt 1 IntP Bs w vs s) (hsB:Bs≤w.heap.size) (hsl:s.length≤300000000) (F:FdOk p f) (hks:∀ k∈s,isKB p.ty.length k=true) (hN:namesB p f ⟨6,a,b⟩=true) (hab : -9223372036854775808≤a∧a≤9223372036854775807) (hn:(takesP p f ⟨6,a,b⟩).n≤s.length):Calls Tryz.prog 27 #[.agg #[v1,v2,v3,v4],.agg #[.int .i64 f.pa,u1,u2,u3,u4],.agg #[.int .i64 6,.int .i64 a,.int .i64 b],vs] w (EfR w.heap.size (efP p f ⟨6,a,b⟩ s) w):=by
 have _u:f.lo.length≤4096∧(∀ k∈s,isKB p.ty.length k=true)∧(takesP p f ⟨6,a,b⟩).n≤s.length∧namesB p f ⟨6,a,b⟩=true∧-9223372036854775808≤a:=⟨F.nl,hks,hn,hN,hab.1⟩
 clear _u
 have hnt:=H.nt
 have ht:(takesP p f ⟨6,a,b⟩).n=1:=by simp [takesP,Must.n]
 rw [ht] at hn
 obtain ⟨r,x,hs,ht1,hd1⟩:=split1 hn
 have hkd:=kd_of hnt (hks x (by rw [hs];simp))
 unfold efP
 rw [ht,hd1,ht1,fine1]
 rw [show (takesP p f ⟨6,a,b⟩).at 0 0 x=true by simp [takesP,Must.at,anyB]]
 rw [show putsP p f ⟨6,a,b⟩ (([x]:List Int).getLast?.getD 0) (([x]:List Int).head?.getD 0)=.ok [x,x] by simp [putsP]]
 simp only [Bool.true_eq_false,if_false]
 exact ef_6 P hB s1 s2 s3 s4 H Rs hsB hsl hs
theorem ea_10 (P:PgAt B w v1 v2 v3 v4 p) (hB:B≤w.heap.size) (s1:SlAt 1 IntP B w u1 f.lo) (s2:SlAt 1 IntP B w u2 f.re) (s3:SlAt 1 IntP B w u3 f.ar) (s4:SlAt 3 InsP B w u4 f.co) (H:Hok p) (Rs:SlAt 1 IntP Bs w vs s) (hsB:Bs≤w.heap.size) (hsl:s.length≤300000000) (F:FdOk p f) (hks:∀ k∈s,isKB p.ty.length k=true) (hN:namesB p f ⟨10,a,b⟩=true) (hab : -9223372036854775808≤a∧a≤9223372036854775807) (hn:(takesP p f ⟨10,a,b⟩).n≤s.length):Calls Tryz.prog 27 #[.agg #[v1,v2,v3,v4],.agg #[.int .i64 f.pa,u1,u2,u3,u4],.agg #[.int .i64 10,.int .i64 a,.int .i64 b],vs] w (EfR w.heap.size (efP p f ⟨10,a,b⟩ s) w):=by
 have _u:f.lo.length≤4096∧(∀ k∈s,isKB p.ty.length k=true)∧(takesP p f ⟨10,a,b⟩).n≤s.length∧namesB p f ⟨10,a,b⟩=true∧-9223372036854775808≤a:=⟨F.nl,hks,hn,hN,hab.1⟩
 clear _u
 have hnt:=H.nt
 have ht:(takesP p f ⟨10,a,b⟩).n=1:=by simp [takesP,Must.n]
 rw [ht] at hn
 obtain ⟨r,x,hs,ht1,hd1⟩:=split1 hn
 have hkd:=kd_of hnt (hks x (by rw [hs];simp))
 unfold efP
 rw [ht,hd1,ht1,fine1]
 rw [show (takesP p f ⟨10,a,b⟩).at 0 0 x=decide (x=0) by rw [← fit0 (.inl rfl)];simp [takesP,Must.at]]
 rw [show putsP p f ⟨10,a,b⟩ (([x]:List Int).getLast?.getD 0) (([x]:List Int).head?.getD 0)=.ok [] by simp [putsP]]
 cases hc:decide (x=0) with
 | true =>
  dsimp only [EfR]
  simp only [Bool.true_eq_false,if_false,List.append_nil]
  exact ef_10t P hB s1 s2 s3 s4 H Rs hsB hsl hs (of_decide_eq_true hc)
 | false=>exact ef_10f P hB s1 s2 s3 s4 H Rs hsB hsl hs (of_decide_eq_false hc)
theorem ea_25 (P:PgAt B w v1 v2 v3 v4 p) (hB:B≤w.heap.size) (s1:SlAt 1 IntP B w u1 f.lo) (s2:SlAt 1 IntP B w u2 f.re) (s3:SlAt 1 IntP B w u3 f.ar) (s4:SlAt 3 InsP B w u4 f.co) (H:Hok p) (Rs:SlAt 1 IntP Bs w vs s) (hsB:Bs≤w.heap.size) (hsl:s.length≤300000000) (F:FdOk p f) (hks:∀ k∈s,isKB p.ty.length k=true) (hN:namesB p f ⟨25,a,b⟩=true) (hab : -9223372036854775808≤a∧a≤9223372036854775807) (hn:(takesP p f ⟨25,a,b⟩).n≤s.length):Calls Tryz.prog 27 #[.agg #[v1,v2,v3,v4],.agg #[.int .i64 f.pa,u1,u2,u3,u4],.agg #[.int .i64 25,.int .i64 a,.int .i64 b],vs] w (EfR w.heap.size (efP p f ⟨25,a,b⟩ s) w):=by
 have _u:f.lo.length≤4096∧(∀ k∈s,isKB p.ty.length k=true)∧(takesP p f ⟨25,a,b⟩).n≤s.length∧namesB p f ⟨25,a,b⟩=true∧-9223372036854775808≤a:=⟨F.nl,hks,hn,hN,hab.1⟩
 clear _u
 have hnt:=H.nt
 have ht:(takesP p f ⟨25,a,b⟩).n=1:=by simp [takesP,Must.n]
 rw [ht] at hn
 obtain ⟨r,x,hs,ht1,hd1⟩:=split1 hn
 have hkd:=kd_of hnt (hks x (by rw [hs];simp))
 unfold efP
 rw [ht,hd1,ht1,fine1]
 rw [show (takesP p f ⟨25,a,b⟩).at 0 0 x=decide (x=0) by rw [← fit0 (.inl rfl)];simp [takesP,Must.at]]
 rw [show putsP p f ⟨25,a,b⟩ (([x]:List Int).getLast?.getD 0) (([x]:List Int).head?.getD 0)=.ok [] by simp [putsP]]
 cases hc:decide (x=0) with
 | true =>
  dsimp only [EfR]
  simp only [Bool.true_eq_false,if_false,List.append_nil]
  exact ef_25t P hB s1 s2 s3 s4 H Rs hsB hsl hs (of_decide_eq_true hc)
 | false=>exact ef_25f P hB s1 s2 s3 s4 H Rs hsB hsl hs (of_decide_eq_false hc)
theorem ea_26 (P:PgAt B w v1 v2 v3 v4 p) (hB:B≤w.heap.size) (s1:SlAt 1 IntP B w u1 f.lo) (s2:SlAt 1 IntP B w u2 f.re) (s3:SlAt 1 IntP B w u3 f.ar) (s4:SlAt 3 InsP B w u4 f.co) (H:Hok p) (Rs:SlAt 1 IntP Bs w vs s) (hsB:Bs≤w.heap.size) (hsl:s.length≤300000000) (F:FdOk p f) (hks:∀ k∈s,isKB p.ty.length k=true) (hN:namesB p f ⟨26,a,b⟩=true) (hab : -9223372036854775808≤a∧a≤9223372036854775807) (hn:(takesP p f ⟨26,a,b⟩).n≤s.length):Calls Tryz.prog 27 #[.agg #[v1,v2,v3,v4],.agg #[.int .i64 f.pa,u1,u2,u3,u4],.agg #[.int .i64 26,.int .i64 a,.int .i64 b],vs] w (EfR w.heap.size (efP p f ⟨26,a,b⟩ s) w):=by
 have _u:f.lo.length≤4096∧(∀ k∈s,isKB p.ty.length k=true)∧(takesP p f ⟨26,a,b⟩).n≤s.length∧namesB p f ⟨26,a,b⟩=true∧-9223372036854775808≤a:=⟨F.nl,hks,hn,hN,hab.1⟩
 clear _u
 have hnt:=H.nt
 have ht:(takesP p f ⟨26,a,b⟩).n=1:=by simp [takesP,Must.n]
 rw [ht] at hn
 obtain ⟨r,x,hs,ht1,hd1⟩:=split1 hn
 have hkd:=kd_of hnt (hks x (by rw [hs];simp))
 unfold efP
 rw [ht,hd1,ht1,fine1]
 rw [show (takesP p f ⟨26,a,b⟩).at 0 0 x=decide (x=0) by rw [← fit0 (.inl rfl)];simp [takesP,Must.at]]
 rw [show putsP p f ⟨26,a,b⟩ (([x]:List Int).getLast?.getD 0) (([x]:List Int).head?.getD 0)=.ok [] by simp [putsP]]
 cases hc:decide (x=0) with
 | true =>
  dsimp only [EfR]
  simp only [Bool.true_eq_false,if_false,List.append_nil]
  exact ef_26t P hB s1 s2 s3 s4 H Rs hsB hsl hs (of_decide_eq_true hc)
 | false=>exact ef_26f P hB s1 s2 s3 s4 H Rs hsB hsl hs (of_decide_eq_false hc)
theorem ea_27 (P:PgAt B w v1 v2 v3 v4 p) (hB:B≤w.heap.size) (s1:SlAt 1 IntP B w u1 f.lo) (s2:SlAt 1 IntP B w u2 f.re) (s3:SlAt 1 IntP B w u3 f.ar) (s4:SlAt 3 InsP B w u4 f.co) (H:Hok p) (Rs:SlAt 1 IntP Bs w vs s) (hsB:Bs≤w.heap.size) (hsl:s.length≤300000000) (F:FdOk p f) (hks:∀ k∈s,isKB p.ty.length k=true) (hN:namesB p f ⟨27,a,b⟩=true) (hab : -9223372036854775808≤a∧a≤9223372036854775807) (hn:(takesP p f ⟨27,a,b⟩).n≤s.length):Calls Tryz.prog 27 #[.agg #[v1,v2,v3,v4],.agg #[.int .i64 f.pa,u1,u2,u3,u4],.agg #[.int .i64 27,.int .i64 a,.int .i64 b],vs] w (EfR w.heap.size (efP p f ⟨27,a,b⟩ s) w):=by
 have _u:f.lo.length≤4096∧(∀ k∈s,isKB p.ty.length k=true)∧(takesP p f ⟨27,a,b⟩).n≤s.length∧namesB p f ⟨27,a,b⟩=true∧-9223372036854775808≤a:=⟨F.nl,hks,hn,hN,hab.1⟩
 clear _u
 have hnt:=H.nt
 have ht:(takesP p f ⟨27,a,b⟩).n=1:=by simp [takesP,Must.n]
 rw [ht] at hn
 obtain ⟨r,x,hs,ht1,hd1⟩:=split1 hn
 have hkd:=kd_of hnt (hks x (by rw [hs];simp))
 unfold efP
 rw [ht,hd1,ht1,fine1]
 rw [show (takesP p f ⟨27,a,b⟩).at 0 0 x=decide (x=0) by rw [← fit0 (.inl rfl)];simp [takesP,Must.at]]
 rw [show putsP p f ⟨27,a,b⟩ (([x]:List Int).getLast?.getD 0) (([x]:List Int).head?.getD 0)=.ok [] by simp [putsP]]
 cases hc:decide (x=0) with
 | true =>
  dsimp only [EfR]
  simp only [Bool.true_eq_false,if_false,List.append_nil]
  exact ef_27t P hB s1 s2 s3 s4 H Rs hsB hsl hs (of_decide_eq_true hc)
 | false=>exact ef_27f P hB s1 s2 s3 s4 H Rs hsB hsl hs (of_decide_eq_false hc)
theorem ea_7 (P:PgAt B w v1 v2 v3 v4 p) (hB:B≤w.heap.size) (s1:SlAt 1 IntP B w u1 f.lo) (s2:SlAt 1 IntP B w u2 f.re) (s3:SlAt 1 IntP B w u3 f.ar) (s4:SlAt 3 InsP B w u4 f.co) (H:Hok p) (Rs:SlAt 1 IntP Bs w vs s) (hsB:Bs≤w.heap.size) (hsl:s.length≤300000000) (F:FdOk p f) (hks:∀ k∈s,isKB p.ty.length k=true) (hN:namesB p f ⟨7,a,b⟩=true) (hab : -9223372036854775808≤a∧a≤9223372036854775807) (hn:(takesP p f ⟨7,a,b⟩).n≤s.length):Calls Tryz.prog 27 #[.agg #[v1,v2,v3,v4],.agg #[.int .i64 f.pa,u1,u2,u3,u4],.agg #[.int .i64 7,.int .i64 a,.int .i64 b],vs] w (EfR w.heap.size (efP p f ⟨7,a,b⟩ s) w):=by
 have _u:f.lo.length≤4096∧(∀ k∈s,isKB p.ty.length k=true)∧(takesP p f ⟨7,a,b⟩).n≤s.length∧namesB p f ⟨7,a,b⟩=true∧-9223372036854775808≤a:=⟨F.nl,hks,hn,hN,hab.1⟩
 clear _u
 have hnt:=H.nt
 have ht:(takesP p f ⟨7,a,b⟩).n=2:=by simp [takesP,Must.n]
 rw [ht] at hn
 obtain ⟨r,x,y,hs,ht1,hd1⟩:=split2 hn
 have hkx:=kd_of hnt (hks x (by rw [hs];simp))
 have hky:=kd_of hnt (hks y (by rw [hs];simp))
 unfold efP
 rw [ht,hd1,ht1,fine2]
 rw [show (takesP p f ⟨7,a,b⟩).at 0 y x=decide (x=0) by rw [← fit0 (.inl rfl)];simp [takesP,Must.at],show (takesP p f ⟨7,a,b⟩).at 1 y y=decide (y=0) by rw [← fit0 (.inl rfl)];simp [takesP,Must.at]]
 rw [show putsP p f ⟨7,a,b⟩ (([x,y]:List Int).getLast?.getD 0) (([x,y]:List Int).head?.getD 0)=.ok [0] by simp [putsP]]
 by_cases hy0:y=0
 · by_cases hx0:x=0
   · rw [decide_eq_true hx0,decide_eq_true hy0]
     exact ef_7t P hB s1 s2 s3 s4 H Rs hsB hsl hs hN hx0 hy0
   · rw [decide_eq_false hx0]
     exact ef_7x P hB s1 s2 s3 s4 H Rs hsB hsl hs hN hx0 hy0
 · rw [decide_eq_false hy0,Bool.and_false]
   exact ef_7y P hB s1 s2 s3 s4 H Rs hsB hsl hs hN hy0
theorem ea_8 (P:PgAt B w v1 v2 v3 v4 p) (hB:B≤w.heap.size) (s1:SlAt 1 IntP B w u1 f.lo) (s2:SlAt 1 IntP B w u2 f.re) (s3:SlAt 1 IntP B w u3 f.ar) (s4:SlAt 3 InsP B w u4 f.co) (H:Hok p) (Rs:SlAt 1 IntP Bs w vs s) (hsB:Bs≤w.heap.size) (hsl:s.length≤300000000) (F:FdOk p f) (hks:∀ k∈s,isKB p.ty.length k=true) (hN:namesB p f ⟨8,a,b⟩=true) (hab : -9223372036854775808≤a∧a≤9223372036854775807) (hn:(takesP p f ⟨8,a,b⟩).n≤s.length):Calls Tryz.prog 27 #[.agg #[v1,v2,v3,v4],.agg #[.int .i64 f.pa,u1,u2,u3,u4],.agg #[.int .i64 8,.int .i64 a,.int .i64 b],vs] w (EfR w.heap.size (efP p f ⟨8,a,b⟩ s) w):=by
 have _u:f.lo.length≤4096∧(∀ k∈s,isKB p.ty.length k=true)∧(takesP p f ⟨8,a,b⟩).n≤s.length∧namesB p f ⟨8,a,b⟩=true∧-9223372036854775808≤a:=⟨F.nl,hks,hn,hN,hab.1⟩
 clear _u
 have hnt:=H.nt
 have ht:(takesP p f ⟨8,a,b⟩).n=2:=by simp [takesP,Must.n]
 rw [ht] at hn
 obtain ⟨r,x,y,hs,ht1,hd1⟩:=split2 hn
 have hkx:=kd_of hnt (hks x (by rw [hs];simp))
 have hky:=kd_of hnt (hks y (by rw [hs];simp))
 unfold efP
 rw [ht,hd1,ht1,fine2]
 rw [show (takesP p f ⟨8,a,b⟩).at 0 y x=(decide (x≠0) && (fitB x y || fitB y x)) by simp [takesP,Must.at],show (takesP p f ⟨8,a,b⟩).at 1 y y=decide (y≠0) by simp [takesP,Must.at]]
 rw [show putsP p f ⟨8,a,b⟩ (([x,y]:List Int).getLast?.getD 0) (([x,y]:List Int).head?.getD 0)=.ok [0] by simp [putsP]]
 by_cases hy0:y=0
 · rw [show decide (y≠0)=false by simp [hy0],Bool.and_false]
   exact ef_8y P hB s1 s2 s3 s4 H Rs hsB hsl hs hy0
 · rw [show decide (y≠0)=true by simp [hy0],Bool.and_true]
   by_cases hx0:x=0
   · rw [show decide (x≠0)=false by simp [hx0],Bool.false_and]
     exact ef_8x P hB s1 s2 s3 s4 H Rs hsB hsl hs hy0 hx0
   · rw [show decide (x≠0)=true by simp [hx0],Bool.true_and]
     cases hf1:fitB y x with
     | true =>
      rw [Bool.or_true]
      exact ef_8a P hB s1 s2 s3 s4 H Rs hsB hsl hs hky hy0 hx0 hf1
     | false =>
      rw [Bool.or_false]
      cases hf2:fitB x y with
      | true=>exact ef_8b P hB s1 s2 s3 s4 H Rs hsB hsl hs hky hkx hy0 hx0 hf1 hf2
      | false=>exact ef_8c P hB s1 s2 s3 s4 H Rs hsB hsl hs hky hkx hy0 hx0 hf1 hf2
theorem ea_24 (P:PgAt B w v1 v2 v3 v4 p) (hB:B≤w.heap.size) (s1:SlAt 1 IntP B w u1 f.lo) (s2:SlAt 1 IntP B w u2 f.re) (s3:SlAt 1 IntP B w u3 f.ar) (s4:SlAt 3 InsP B w u4 f.co) (H:Hok p) (Rs:SlAt 1 IntP Bs w vs s) (hsB:Bs≤w.heap.size) (hsl:s.length≤300000000) (F:FdOk p f) (hks:∀ k∈s,isKB p.ty.length k=true) (hN:namesB p f ⟨24,a,b⟩=true) (hab : -9223372036854775808≤a∧a≤9223372036854775807) (hn:(takesP p f ⟨24,a,b⟩).n≤s.length):Calls Tryz.prog 27 #[.agg #[v1,v2,v3,v4],.agg #[.int .i64 f.pa,u1,u2,u3,u4],.agg #[.int .i64 24,.int .i64 a,.int .i64 b],vs] w (EfR w.heap.size (efP p f ⟨24,a,b⟩ s) w):=by
 have _u:f.lo.length≤4096∧(∀ k∈s,isKB p.ty.length k=true)∧(takesP p f ⟨24,a,b⟩).n≤s.length∧namesB p f ⟨24,a,b⟩=true∧-9223372036854775808≤a:=⟨F.nl,hks,hn,hN,hab.1⟩
 clear _u
 have hnt:=H.nt
 have ht:(takesP p f ⟨24,a,b⟩).n=f.re.length:=by simp [takesP,Must.n]
 rw [ht] at hn
 have hs:s=s.take (s.length - f.re.length)++s.drop (s.length - f.re.length):=(List.take_append_drop _ _).symm
 have hkl:(s.drop (s.length - f.re.length)).length=f.re.length:=by rw [List.length_drop];omega
 have hkd:∀ x∈s,-1≤x∧x≤2000000:=fun x hx=>by have:=kd_of hnt (hks x hx);exact ⟨by have:=this.1;omega,this.2⟩
 unfold efP
 rw [ht,show takesP p f ⟨24,a,b⟩=.fit f.re by simp [takesP],show ∀ t l,putsP p f ⟨24,a,b⟩ t l=.ok [] from fun t l=>by simp [putsP]]
 cases hfi:(Must.fit f.re).fine (s.drop (s.length - f.re.length)) with
 | true =>
  simp only [Bool.true_eq_false,if_false,List.append_nil]
  exact ef_24t P hB s1 s2 s3 s4 H Rs hsB hsl hs hkl ht hkd hfi hn
 | false=>exact ef_24f P hB s1 s2 s3 s4 H Rs hsB hsl hs hkl ht hkd hfi hn
theorem ea_22 (P:PgAt B w v1 v2 v3 v4 p) (hB:B≤w.heap.size) (s1:SlAt 1 IntP B w u1 f.lo) (s2:SlAt 1 IntP B w u2 f.re) (s3:SlAt 1 IntP B w u3 f.ar) (s4:SlAt 3 InsP B w u4 f.co) (H:Hok p) (Rs:SlAt 1 IntP Bs w vs s) (hsB:Bs≤w.heap.size) (hsl:s.length≤300000000) (F:FdOk p f) (hks:∀ k∈s,isKB p.ty.length k=true) (hN:namesB p f ⟨22,a,b⟩=true) (hab : -9223372036854775808≤a∧a≤9223372036854775807) (hn:(takesP p f ⟨22,a,b⟩).n≤s.length):Calls Tryz.prog 27 #[.agg #[v1,v2,v3,v4],.agg #[.int .i64 f.pa,u1,u2,u3,u4],.agg #[.int .i64 22,.int .i64 a,.int .i64 b],vs] w (EfR w.heap.size (efP p f ⟨22,a,b⟩ s) w):=by
 have _u:f.lo.length≤4096∧(∀ k∈s,isKB p.ty.length k=true)∧(takesP p f ⟨22,a,b⟩).n≤s.length∧namesB p f ⟨22,a,b⟩=true∧-9223372036854775808≤a:=⟨F.nl,hks,hn,hN,hab.1⟩
 clear _u
 have hnt:=H.nt
 have hin:inB a p.fu.length=true:=by simpa [namesB] using hN
 obtain ⟨n,rfl,hnl⟩:=in_nat hin
 obtain ⟨g,hg⟩ : ∃ g,p.fu[n]?=some g:=⟨p.fu[n],by simp⟩
 have hgo:=H.fu g (List.mem_of_getElem? hg)
 obtain ⟨kn,hpk⟩ : ∃ kn:Nat,g.pa=(kn:Int):=⟨g.pa.toNat,by have:=hgo.pa;omega⟩
 have hple:kn≤g.lo.length:=by have:=hgo.pa;omega
 have hpr:parK (callP p (n:Int))=g.lo.take kn:=by unfold callP parK;rw [Int.toNat_natCast,hg,Option.getD_some,hpk];rfl
 have hT:takesP p f ⟨22,(n:Int),b⟩=.fit (g.lo.take kn):=by simp [takesP,hpr]
 have ht:(takesP p f ⟨22,(n:Int),b⟩).n=kn:=by rw [hT];simp [Must.n];omega
 rw [ht] at hn
 have hs:s=s.take (s.length - kn)++s.drop (s.length - kn):=(List.take_append_drop _ _).symm
 have hkl:(s.drop (s.length - kn)).length=kn:=by rw [List.length_drop];omega
 have hkd:∀ x∈s,-1≤x∧x≤2000000:=fun x hx=>by have:=kd_of hnt (hks x hx);exact ⟨by have:=this.1;omega,this.2⟩
 unfold efP
 rw [ht,hT,show ∀ t l,putsP p f ⟨22,(n:Int),b⟩ t l=.ok g.re from fun t l=>by simp [putsP,callP,hg]]
 cases hfi:(Must.fit (g.lo.take kn)).fine (s.drop (s.length - kn)) with
 | true=>exact ef_22t P hB s1 s2 s3 s4 H Rs hsB hsl hs hkl ht hkd hN rfl hg hpk hple hgo.nr hn hfi
 | false=>exact ef_22f P hB s1 s2 s3 s4 H Rs hsB hsl hs hkl ht hkd hN rfl hg hpk hple hgo.nr hn hfi
theorem ea_23 (P:PgAt B w v1 v2 v3 v4 p) (hB:B≤w.heap.size) (s1:SlAt 1 IntP B w u1 f.lo) (s2:SlAt 1 IntP B w u2 f.re) (s3:SlAt 1 IntP B w u3 f.ar) (s4:SlAt 3 InsP B w u4 f.co) (H:Hok p) (Rs:SlAt 1 IntP Bs w vs s) (hsB:Bs≤w.heap.size) (hsl:s.length≤300000000) (F:FdOk p f) (hks:∀ k∈s,isKB p.ty.length k=true) (hN:namesB p f ⟨23,a,b⟩=true) (hab : -9223372036854775808≤a∧a≤9223372036854775807) (hn:(takesP p f ⟨23,a,b⟩).n≤s.length):Calls Tryz.prog 27 #[.agg #[v1,v2,v3,v4],.agg #[.int .i64 f.pa,u1,u2,u3,u4],.agg #[.int .i64 23,.int .i64 a,.int .i64 b],vs] w (EfR w.heap.size (efP p f ⟨23,a,b⟩ s) w):=by
 have _u:f.lo.length≤4096∧(∀ k∈s,isKB p.ty.length k=true)∧(takesP p f ⟨23,a,b⟩).n≤s.length∧namesB p f ⟨23,a,b⟩=true∧-9223372036854775808≤a:=⟨F.nl,hks,hn,hN,hab.1⟩
 clear _u
 have hnt:=H.nt
 have hin:inB a p.ta.length=true:=by simpa [namesB] using hN
 obtain ⟨n,rfl,hnl⟩:=in_nat hin
 obtain ⟨tt,htt⟩ : ∃ t,p.ta[n]?=some t:=⟨p.ta[n],by simp⟩
 obtain ⟨m,g,h0,hg⟩:=tab_first (H.ta tt (List.mem_of_getElem? htt))
 have hgo:=H.fu g (List.mem_of_getElem? hg)
 obtain ⟨kp,hpk⟩ : ∃ kn:Nat,g.pa=(kn:Int):=⟨g.pa.toNat,by have:=hgo.pa;omega⟩
 have hple:kp≤g.lo.length:=by have:=hgo.pa;omega
 have hit:itemP p (n:Int)=g:=by unfold itemP;rw [Int.toNat_natCast,htt,Option.getD_some,h0,Option.getD_some,Int.toNat_natCast,hg,Option.getD_some]
 have hpr:parK g=g.lo.take kp:=by unfold parK;rw [hpk];rfl
 have hT:takesP p f ⟨23,(n:Int),b⟩=.fit (g.lo.take kp++[0]):=by simp [takesP,hit,hpr]
 have hl:(g.lo.take kp).length=kp:=by rw [List.length_take];omega
 have ht:(takesP p f ⟨23,(n:Int),b⟩).n=kp+1:=by rw [hT];simp [Must.n];omega
 rw [ht] at hn
 have hs:s=s.take (s.length - (kp+1))++s.drop (s.length - (kp+1)):=(List.take_append_drop _ _).symm
 have hkl:(s.drop (s.length - (kp+1))).length=(kp+1):=by rw [List.length_drop];omega
 have hkd:∀ x∈s,-1≤x∧x≤2000000:=fun x hx=>by have:=kd_of hnt (hks x hx);exact ⟨by have:=this.1;omega,this.2⟩
 obtain ⟨y,hy⟩ : ∃ y,s[s.length - 1]?=some y:=⟨s[s.length - 1],by simp⟩
 have hfs:=fine_snoc (l:=g.lo.take kp) (by rw [hl];exact hn) hy
 rw [hl] at hfs
 unfold efP
 rw [ht,hT,show ∀ t l,putsP p f ⟨23,(n:Int),b⟩ t l=.ok g.re from fun t l=>by simp [putsP,hit],hfs]
 by_cases hy0:y=0
 · rw [decide_eq_true hy0,Bool.and_true]
   cases hfi:(Must.fit (g.lo.take kp)).fine ((s.take (s.length - 1)).drop (s.length - 1 - kp)) with
   | true=>exact ef_23t P hB s1 s2 s3 s4 H Rs hsB hsl hs hkl ht hkd hN rfl htt h0 hg hpk rfl hple hgo.nr hy hy0 hfi
   | false=>exact ef_23f P hB s1 s2 s3 s4 H Rs hsB hsl hs hkl ht hkd hN rfl htt h0 hg hpk rfl hple hgo.nr hy hy0 hfi
 · rw [decide_eq_false hy0,Bool.and_false]
   exact ef_23a P hB s1 s2 s3 s4 H Rs hsB hsl hs hkl ht hN rfl htt h0 hg hpk rfl hple hgo.nr hy hy0
theorem ea_11 (P:PgAt B w v1 v2 v3 v4 p) (hB:B≤w.heap.size) (s1:SlAt 1 IntP B w u1 f.lo) (s2:SlAt 1 IntP B w u2 f.re) (s3:SlAt 1 IntP B w u3 f.ar) (s4:SlAt 3 InsP B w u4 f.co) (H:Hok p) (Rs:SlAt 1 IntP Bs w vs s) (hsB:Bs≤w.heap.size) (hsl:s.length≤300000000) (F:FdOk p f) (hks:∀ k∈s,isKB p.ty.length k=true) (hN:namesB p f ⟨11,a,b⟩=true) (hab : -9223372036854775808≤a∧a≤9223372036854775807) (hn:(takesP p f ⟨11,a,b⟩).n≤s.length):Calls Tryz.prog 27 #[.agg #[v1,v2,v3,v4],.agg #[.int .i64 f.pa,u1,u2,u3,u4],.agg #[.int .i64 11,.int .i64 a,.int .i64 b],vs] w (EfR w.heap.size (efP p f ⟨11,a,b⟩ s) w):=by
 have _u:f.lo.length≤4096∧(∀ k∈s,isKB p.ty.length k=true)∧(takesP p f ⟨11,a,b⟩).n≤s.length∧namesB p f ⟨11,a,b⟩=true∧-9223372036854775808≤a:=⟨F.nl,hks,hn,hN,hab.1⟩
 clear _u
 refine ef_obj (r:=s.take (s.length - (takesP p f ⟨11,a,b⟩).n)) (ks:=s.drop (s.length - (takesP p f ⟨11,a,b⟩).n)) P hB s1 s2 s3 s4 H Rs hsB hsl rfl rfl rfl rfl rfl rfl rfl rfl rfl rfl rfl rfl rfl rfl rfl rfl rfl ⟨by decide,by decide⟩ hN (List.take_append_drop _ _).symm (by rw [List.length_drop];omega) rfl (fun W vr C P' hB' t1 t2 t3 R' O hC1 hC2=>oa_11 P' hB' t1 t2 t3 H F R' O hC1 hC2 hsl hks hN hn rfl)
theorem ea_12 (P:PgAt B w v1 v2 v3 v4 p) (hB:B≤w.heap.size) (s1:SlAt 1 IntP B w u1 f.lo) (s2:SlAt 1 IntP B w u2 f.re) (s3:SlAt 1 IntP B w u3 f.ar) (s4:SlAt 3 InsP B w u4 f.co) (H:Hok p) (Rs:SlAt 1 IntP Bs w vs s) (hsB:Bs≤w.heap.size) (hsl:s.length≤300000000) (F:FdOk p f) (hks:∀ k∈s,isKB p.ty.length k=true) (hN:namesB p f ⟨12,a,b⟩=true) (hab : -9223372036854775808≤a∧a≤9223372036854775807) (hn:(takesP p f ⟨12,a,b⟩).n≤s.length):Calls Tryz.prog 27 #[.agg #[v1,v2,v3,v4],.agg #[.int .i64 f.pa,u1,u2,u3,u4],.agg #[.int .i64 12,.int .i64 a,.int .i64 b],vs] w (EfR w.heap.size (efP p f ⟨12,a,b⟩ s) w):=by
 have _u:f.lo.length≤4096∧(∀ k∈s,isKB p.ty.length k=true)∧(takesP p f ⟨12,a,b⟩).n≤s.length∧namesB p f ⟨12,a,b⟩=true∧-9223372036854775808≤a:=⟨F.nl,hks,hn,hN,hab.1⟩
 clear _u
 refine ef_obj (r:=s.take (s.length - (takesP p f ⟨12,a,b⟩).n)) (ks:=s.drop (s.length - (takesP p f ⟨12,a,b⟩).n)) P hB s1 s2 s3 s4 H Rs hsB hsl rfl rfl rfl rfl rfl rfl rfl rfl rfl rfl rfl rfl rfl rfl rfl rfl rfl ⟨by decide,by decide⟩ hN (List.take_append_drop _ _).symm (by rw [List.length_drop];omega) rfl (fun W vr C P' hB' t1 t2 t3 R' O hC1 hC2=>oa_12 P' hB' t1 t2 t3 H F R' O hC1 hC2 hsl hks hN hn rfl)
theorem ea_13 (P:PgAt B w v1 v2 v3 v4 p) (hB:B≤w.heap.size) (s1:SlAt 1 IntP B w u1 f.lo) (s2:SlAt 1 IntP B w u2 f.re) (s3:SlAt 1 IntP B w u3 f.ar) (s4:SlAt 3 InsP B w u4 f.co) (H:Hok p) (Rs:SlAt 1 IntP Bs w vs s) (hsB:Bs≤w.heap.size) (hsl:s.length≤300000000) (F:FdOk p f) (hks:∀ k∈s,isKB p.ty.length k=true) (hN:namesB p f ⟨13,a,b⟩=true) (hab : -9223372036854775808≤a∧a≤9223372036854775807) (hn:(takesP p f ⟨13,a,b⟩).n≤s.length):Calls Tryz.prog 27 #[.agg #[v1,v2,v3,v4],.agg #[.int .i64 f.pa,u1,u2,u3,u4],.agg #[.int .i64 13,.int .i64 a,.int .i64 b],vs] w (EfR w.heap.size (efP p f ⟨13,a,b⟩ s) w):=by
 have _u:f.lo.length≤4096∧(∀ k∈s,isKB p.ty.length k=true)∧(takesP p f ⟨13,a,b⟩).n≤s.length∧namesB p f ⟨13,a,b⟩=true∧-9223372036854775808≤a:=⟨F.nl,hks,hn,hN,hab.1⟩
 clear _u
 refine ef_obj (r:=s.take (s.length - (takesP p f ⟨13,a,b⟩).n)) (ks:=s.drop (s.length - (takesP p f ⟨13,a,b⟩).n)) P hB s1 s2 s3 s4 H Rs hsB hsl rfl rfl rfl rfl rfl rfl rfl rfl rfl rfl rfl rfl rfl rfl rfl rfl rfl ⟨by decide,by decide⟩ hN (List.take_append_drop _ _).symm (by rw [List.length_drop];omega) rfl (fun W vr C P' hB' t1 t2 t3 R' O hC1 hC2=>oa_13 P' hB' t1 t2 t3 H F R' O hC1 hC2 hsl hks hN hn rfl)
theorem ea_14 (P:PgAt B w v1 v2 v3 v4 p) (hB:B≤w.heap.size) (s1:SlAt 1 IntP B w u1 f.lo) (s2:SlAt 1 IntP B w u2 f.re) (s3:SlAt 1 IntP B w u3 f.ar) (s4:SlAt 3 InsP B w u4 f.co) (H:Hok p) (Rs:SlAt 1 IntP Bs w vs s) (hsB:Bs≤w.heap.size) (hsl:s.length≤300000000) (F:FdOk p f) (hks:∀ k∈s,isKB p.ty.length k=true) (hN:namesB p f ⟨14,a,b⟩=true) (hab : -9223372036854775808≤a∧a≤9223372036854775807) (hn:(takesP p f ⟨14,a,b⟩).n≤s.length):Calls Tryz.prog 27 #[.agg #[v1,v2,v3,v4],.agg #[.int .i64 f.pa,u1,u2,u3,u4],.agg #[.int .i64 14,.int .i64 a,.int .i64 b],vs] w (EfR w.heap.size (efP p f ⟨14,a,b⟩ s) w):=by
 have _u:f.lo.length≤4096∧(∀ k∈s,isKB p.ty.length k=true)∧(takesP p f ⟨14,a,b⟩).n≤s.length∧namesB p f ⟨14,a,b⟩=true∧-9223372036854775808≤a:=⟨F.nl,hks,hn,hN,hab.1⟩
 clear _u
 refine ef_obj (r:=s.take (s.length - (takesP p f ⟨14,a,b⟩).n)) (ks:=s.drop (s.length - (takesP p f ⟨14,a,b⟩).n)) P hB s1 s2 s3 s4 H Rs hsB hsl rfl rfl rfl rfl rfl rfl rfl rfl rfl rfl rfl rfl rfl rfl rfl rfl rfl ⟨by decide,by decide⟩ hN (List.take_append_drop _ _).symm (by rw [List.length_drop];omega) rfl (fun W vr C P' hB' t1 t2 t3 R' O hC1 hC2=>oa_14 P' hB' t1 t2 t3 H F R' O hC1 hC2 hsl hks hN hn rfl)
theorem ea_15 (P:PgAt B w v1 v2 v3 v4 p) (hB:B≤w.heap.size) (s1:SlAt 1 IntP B w u1 f.lo) (s2:SlAt 1 IntP B w u2 f.re) (s3:SlAt 1 IntP B w u3 f.ar) (s4:SlAt 3 InsP B w u4 f.co) (H:Hok p) (Rs:SlAt 1 IntP Bs w vs s) (hsB:Bs≤w.heap.size) (hsl:s.length≤300000000) (F:FdOk p f) (hks:∀ k∈s,isKB p.ty.length k=true) (hN:namesB p f ⟨15,a,b⟩=true) (hab : -9223372036854775808≤a∧a≤9223372036854775807) (hn:(takesP p f ⟨15,a,b⟩).n≤s.length):Calls Tryz.prog 27 #[.agg #[v1,v2,v3,v4],.agg #[.int .i64 f.pa,u1,u2,u3,u4],.agg #[.int .i64 15,.int .i64 a,.int .i64 b],vs] w (EfR w.heap.size (efP p f ⟨15,a,b⟩ s) w):=by
 have _u:f.lo.length≤4096∧(∀ k∈s,isKB p.ty.length k=true)∧(takesP p f ⟨15,a,b⟩).n≤s.length∧namesB p f ⟨15,a,b⟩=true∧-9223372036854775808≤a:=⟨F.nl,hks,hn,hN,hab.1⟩
 clear _u
 refine ef_obj (r:=s.take (s.length - (takesP p f ⟨15,a,b⟩).n)) (ks:=s.drop (s.length - (takesP p f ⟨15,a,b⟩).n)) P hB s1 s2 s3 s4 H Rs hsB hsl rfl rfl rfl rfl rfl rfl rfl rfl rfl rfl rfl rfl rfl rfl rfl rfl rfl ⟨by decide,by decide⟩ hN (List.take_append_drop _ _).symm (by rw [List.length_drop];omega) rfl (fun W vr C P' hB' t1 t2 t3 R' O hC1 hC2=>oa_15 P' hB' t1 t2 t3 H F R' O hC1 hC2 hsl hks hN hn rfl)
theorem ea_16 (P:PgAt B w v1 v2 v3 v4 p) (hB:B≤w.heap.size) (s1:SlAt 1 IntP B w u1 f.lo) (s2:SlAt 1 IntP B w u2 f.re) (s3:SlAt 1 IntP B w u3 f.ar) (s4:SlAt 3 InsP B w u4 f.co) (H:Hok p) (Rs:SlAt 1 IntP Bs w vs s) (hsB:Bs≤w.heap.size) (hsl:s.length≤300000000) (F:FdOk p f) (hks:∀ k∈s,isKB p.ty.length k=true) (hN:namesB p f ⟨16,a,b⟩=true) (hab : -9223372036854775808≤a∧a≤9223372036854775807) (hn:(takesP p f ⟨16,a,b⟩).n≤s.length):Calls Tryz.prog 27 #[.agg #[v1,v2,v3,v4],.agg #[.int .i64 f.pa,u1,u2,u3,u4],.agg #[.int .i64 16,.int .i64 a,.int .i64 b],vs] w (EfR w.heap.size (efP p f ⟨16,a,b⟩ s) w):=by
 have _u:f.lo.length≤4096∧(∀ k∈s,isKB p.ty.length k=true)∧(takesP p f ⟨16,a,b⟩).n≤s.length∧namesB p f ⟨16,a,b⟩=true∧-9223372036854775808≤a:=⟨F.nl,hks,hn,hN,hab.1⟩
 clear _u
 refine ef_obj (r:=s.take (s.length - (takesP p f ⟨16,a,b⟩).n)) (ks:=s.drop (s.length - (takesP p f ⟨16,a,b⟩).n)) P hB s1 s2 s3 s4 H Rs hsB hsl rfl rfl rfl rfl rfl rfl rfl rfl rfl rfl rfl rfl rfl rfl rfl rfl rfl ⟨by decide,by decide⟩ hN (List.take_append_drop _ _).symm (by rw [List.length_drop];omega) rfl (fun W vr C P' hB' t1 t2 t3 R' O hC1 hC2=>oa_16 P' hB' t1 t2 t3 H F R' O hC1 hC2 hsl hks hN hn rfl)
theorem ea_17 (P:PgAt B w v1 v2 v3 v4 p) (hB:B≤w.heap.size) (s1:SlAt 1 IntP B w u1 f.lo) (s2:SlAt 1 IntP B w u2 f.re) (s3:SlAt 1 IntP B w u3 f.ar) (s4:SlAt 3 InsP B w u4 f.co) (H:Hok p) (Rs:SlAt 1 IntP Bs w vs s) (hsB:Bs≤w.heap.size) (hsl:s.length≤300000000) (F:FdOk p f) (hks:∀ k∈s,isKB p.ty.length k=true) (hN:namesB p f ⟨17,a,b⟩=true) (hab : -9223372036854775808≤a∧a≤9223372036854775807) (hn:(takesP p f ⟨17,a,b⟩).n≤s.length):Calls Tryz.prog 27 #[.agg #[v1,v2,v3,v4],.agg #[.int .i64 f.pa,u1,u2,u3,u4],.agg #[.int .i64 17,.int .i64 a,.int .i64 b],vs] w (EfR w.heap.size (efP p f ⟨17,a,b⟩ s) w):=by
 have _u:f.lo.length≤4096∧(∀ k∈s,isKB p.ty.length k=true)∧(takesP p f ⟨17,a,b⟩).n≤s.length∧namesB p f ⟨17,a,b⟩=true∧-9223372036854775808≤a:=⟨F.nl,hks,hn,hN,hab.1⟩
 clear _u
 refine ef_obj (r:=s.take (s.length - (takesP p f ⟨17,a,b⟩).n)) (ks:=s.drop (s.length - (takesP p f ⟨17,a,b⟩).n)) P hB s1 s2 s3 s4 H Rs hsB hsl rfl rfl rfl rfl rfl rfl rfl rfl rfl rfl rfl rfl rfl rfl rfl rfl rfl ⟨by decide,by decide⟩ hN (List.take_append_drop _ _).symm (by rw [List.length_drop];omega) rfl (fun W vr C P' hB' t1 t2 t3 R' O hC1 hC2=>oa_17 P' hB' t1 t2 t3 H F R' O hC1 hC2 hsl hks hN hn rfl)
theorem ea_18 (P:PgAt B w v1 v2 v3 v4 p) (hB:B≤w.heap.size) (s1:SlAt 1 IntP B w u1 f.lo) (s2:SlAt 1 IntP B w u2 f.re) (s3:SlAt 1 IntP B w u3 f.ar) (s4:SlAt 3 InsP B w u4 f.co) (H:Hok p) (Rs:SlAt 1 IntP Bs w vs s) (hsB:Bs≤w.heap.size) (hsl:s.length≤300000000) (F:FdOk p f) (hks:∀ k∈s,isKB p.ty.length k=true) (hN:namesB p f ⟨18,a,b⟩=true) (hab : -9223372036854775808≤a∧a≤9223372036854775807) (hn:(takesP p f ⟨18,a,b⟩).n≤s.length):Calls Tryz.prog 27 #[.agg #[v1,v2,v3,v4],.agg #[.int .i64 f.pa,u1,u2,u3,u4],.agg #[.int .i64 18,.int .i64 a,.int .i64 b],vs] w (EfR w.heap.size (efP p f ⟨18,a,b⟩ s) w):=by
 have _u:f.lo.length≤4096∧(∀ k∈s,isKB p.ty.length k=true)∧(takesP p f ⟨18,a,b⟩).n≤s.length∧namesB p f ⟨18,a,b⟩=true∧-9223372036854775808≤a:=⟨F.nl,hks,hn,hN,hab.1⟩
 clear _u
 refine ef_obj (r:=s.take (s.length - (takesP p f ⟨18,a,b⟩).n)) (ks:=s.drop (s.length - (takesP p f ⟨18,a,b⟩).n)) P hB s1 s2 s3 s4 H Rs hsB hsl rfl rfl rfl rfl rfl rfl rfl rfl rfl rfl rfl rfl rfl rfl rfl rfl rfl ⟨by decide,by decide⟩ hN (List.take_append_drop _ _).symm (by rw [List.length_drop];omega) rfl (fun W vr C P' hB' t1 t2 t3 R' O hC1 hC2=>oa_18 P' hB' t1 t2 t3 H F R' O hC1 hC2 hsl hks hN hn rfl)
theorem ea_19 (P:PgAt B w v1 v2 v3 v4 p) (hB:B≤w.heap.size) (s1:SlAt 1 IntP B w u1 f.lo) (s2:SlAt 1 IntP B w u2 f.re) (s3:SlAt 1 IntP B w u3 f.ar) (s4:SlAt 3 InsP B w u4 f.co) (H:Hok p) (Rs:SlAt 1 IntP Bs w vs s) (hsB:Bs≤w.heap.size) (hsl:s.length≤300000000) (F:FdOk p f) (hks:∀ k∈s,isKB p.ty.length k=true) (hN:namesB p f ⟨19,a,b⟩=true) (hab : -9223372036854775808≤a∧a≤9223372036854775807) (hn:(takesP p f ⟨19,a,b⟩).n≤s.length):Calls Tryz.prog 27 #[.agg #[v1,v2,v3,v4],.agg #[.int .i64 f.pa,u1,u2,u3,u4],.agg #[.int .i64 19,.int .i64 a,.int .i64 b],vs] w (EfR w.heap.size (efP p f ⟨19,a,b⟩ s) w):=by
 have _u:f.lo.length≤4096∧(∀ k∈s,isKB p.ty.length k=true)∧(takesP p f ⟨19,a,b⟩).n≤s.length∧namesB p f ⟨19,a,b⟩=true∧-9223372036854775808≤a:=⟨F.nl,hks,hn,hN,hab.1⟩
 clear _u
 refine ef_obj (r:=s.take (s.length - (takesP p f ⟨19,a,b⟩).n)) (ks:=s.drop (s.length - (takesP p f ⟨19,a,b⟩).n)) P hB s1 s2 s3 s4 H Rs hsB hsl rfl rfl rfl rfl rfl rfl rfl rfl rfl rfl rfl rfl rfl rfl rfl rfl rfl ⟨by decide,by decide⟩ hN (List.take_append_drop _ _).symm (by rw [List.length_drop];omega) rfl (fun W vr C P' hB' t1 t2 t3 R' O hC1 hC2=>oa_19 P' hB' t1 t2 t3 H F R' O hC1 hC2 hsl hks hN hn rfl)
theorem ea_20 (P:PgAt B w v1 v2 v3 v4 p) (hB:B≤w.heap.size) (s1:SlAt 1 IntP B w u1 f.lo) (s2:SlAt 1 IntP B w u2 f.re) (s3:SlAt 1 IntP B w u3 f.ar) (s4:SlAt 3 InsP B w u4 f.co) (H:Hok p) (Rs:SlAt 1 IntP Bs w vs s) (hsB:Bs≤w.heap.size) (hsl:s.length≤300000000) (F:FdOk p f) (hks:∀ k∈s,isKB p.ty.length k=true) (hN:namesB p f ⟨20,a,b⟩=true) (hab : -9223372036854775808≤a∧a≤9223372036854775807) (hn:(takesP p f ⟨20,a,b⟩).n≤s.length):Calls Tryz.prog 27 #[.agg #[v1,v2,v3,v4],.agg #[.int .i64 f.pa,u1,u2,u3,u4],.agg #[.int .i64 20,.int .i64 a,.int .i64 b],vs] w (EfR w.heap.size (efP p f ⟨20,a,b⟩ s) w):=by
 have _u:f.lo.length≤4096∧(∀ k∈s,isKB p.ty.length k=true)∧(takesP p f ⟨20,a,b⟩).n≤s.length∧namesB p f ⟨20,a,b⟩=true∧-9223372036854775808≤a:=⟨F.nl,hks,hn,hN,hab.1⟩
 clear _u
 refine ef_obj (r:=s.take (s.length - (takesP p f ⟨20,a,b⟩).n)) (ks:=s.drop (s.length - (takesP p f ⟨20,a,b⟩).n)) P hB s1 s2 s3 s4 H Rs hsB hsl rfl rfl rfl rfl rfl rfl rfl rfl rfl rfl rfl rfl rfl rfl rfl rfl rfl ⟨by decide,by decide⟩ hN (List.take_append_drop _ _).symm (by rw [List.length_drop];omega) rfl (fun W vr C P' hB' t1 t2 t3 R' O hC1 hC2=>oa_20 P' hB' t1 t2 t3 H F R' O hC1 hC2 hsl hks hN hn rfl)
theorem ea_21 (P:PgAt B w v1 v2 v3 v4 p) (hB:B≤w.heap.size) (s1:SlAt 1 IntP B w u1 f.lo) (s2:SlAt 1 IntP B w u2 f.re) (s3:SlAt 1 IntP B w u3 f.ar) (s4:SlAt 3 InsP B w u4 f.co) (H:Hok p) (Rs:SlAt 1 IntP Bs w vs s) (hsB:Bs≤w.heap.size) (hsl:s.length≤300000000) (F:FdOk p f) (hks:∀ k∈s,isKB p.ty.length k=true) (hN:namesB p f ⟨21,a,b⟩=true) (hab : -9223372036854775808≤a∧a≤9223372036854775807) (hn:(takesP p f ⟨21,a,b⟩).n≤s.length):Calls Tryz.prog 27 #[.agg #[v1,v2,v3,v4],.agg #[.int .i64 f.pa,u1,u2,u3,u4],.agg #[.int .i64 21,.int .i64 a,.int .i64 b],vs] w (EfR w.heap.size (efP p f ⟨21,a,b⟩ s) w):=by
 have _u:f.lo.length≤4096∧(∀ k∈s,isKB p.ty.length k=true)∧(takesP p f ⟨21,a,b⟩).n≤s.length∧namesB p f ⟨21,a,b⟩=true∧-9223372036854775808≤a:=⟨F.nl,hks,hn,hN,hab.1⟩
 clear _u
 refine ef_obj (r:=s.take (s.length - (takesP p f ⟨21,a,b⟩).n)) (ks:=s.drop (s.length - (takesP p f ⟨21,a,b⟩).n)) P hB s1 s2 s3 s4 H Rs hsB hsl rfl rfl rfl rfl rfl rfl rfl rfl rfl rfl rfl rfl rfl rfl rfl rfl rfl ⟨by decide,by decide⟩ hN (List.take_append_drop _ _).symm (by rw [List.length_drop];omega) rfl (fun W vr C P' hB' t1 t2 t3 R' O hC1 hC2=>oa_21 P' hB' t1 t2 t3 H F R' O hC1 hC2 hsl hks hN hn rfl)
theorem ea_29 (P:PgAt B w v1 v2 v3 v4 p) (hB:B≤w.heap.size) (s1:SlAt 1 IntP B w u1 f.lo) (s2:SlAt 1 IntP B w u2 f.re) (s3:SlAt 1 IntP B w u3 f.ar) (s4:SlAt 3 InsP B w u4 f.co) (H:Hok p) (Rs:SlAt 1 IntP Bs w vs s) (hsB:Bs≤w.heap.size) (hsl:s.length≤300000000) (F:FdOk p f) (hks:∀ k∈s,isKB p.ty.length k=true) (hN:namesB p f ⟨29,a,b⟩=true) (hab : -9223372036854775808≤a∧a≤9223372036854775807) (hn:(takesP p f ⟨29,a,b⟩).n≤s.length):Calls Tryz.prog 27 #[.agg #[v1,v2,v3,v4],.agg #[.int .i64 f.pa,u1,u2,u3,u4],.agg #[.int .i64 29,.int .i64 a,.int .i64 b],vs] w (EfR w.heap.size (efP p f ⟨29,a,b⟩ s) w):=by
 have _u:f.lo.length≤4096∧(∀ k∈s,isKB p.ty.length k=true)∧(takesP p f ⟨29,a,b⟩).n≤s.length∧namesB p f ⟨29,a,b⟩=true∧-9223372036854775808≤a:=⟨F.nl,hks,hn,hN,hab.1⟩
 clear _u
 refine ef_obj (r:=s.take (s.length - (takesP p f ⟨29,a,b⟩).n)) (ks:=s.drop (s.length - (takesP p f ⟨29,a,b⟩).n)) P hB s1 s2 s3 s4 H Rs hsB hsl rfl rfl rfl rfl rfl rfl rfl rfl rfl rfl rfl rfl rfl rfl rfl rfl rfl ⟨by decide,by decide⟩ hN (List.take_append_drop _ _).symm (by rw [List.length_drop];omega) rfl (fun W vr C P' hB' t1 t2 t3 R' O hC1 hC2=>oa_29 P' hB' t1 t2 t3 H F R' O hC1 hC2 hsl hks hN hn rfl)
theorem effect_any (P:PgAt B w v1 v2 v3 v4 p) (hB:B≤w.heap.size) (s1:SlAt 1 IntP B w u1 f.lo) (s2:SlAt 1 IntP B w u2 f.re) (s3:SlAt 1 IntP B w u3 f.ar) (s4:SlAt 3 InsP B w u4 f.co) (H:Hok p) (Rs:SlAt 1 IntP Bs w vs s) (hsB:Bs≤w.heap.size) (hsl:s.length≤300000000) (F:FdOk p f) (hks:∀ k∈s,isKB p.ty.length k=true) {i:In3} (ho:1≤i.o∧i.o≤29) (hN:namesB p f i=true) (hab : -9223372036854775808≤i.a∧i.a≤9223372036854775807) (hn:(takesP p f i).n≤s.length):Calls Tryz.prog 27 #[.agg #[v1,v2,v3,v4],.agg #[.int .i64 f.pa,u1,u2,u3,u4],.agg #[.int .i64 i.o,.int .i64 i.a,.int .i64 i.b],vs] w (EfR w.heap.size (efP p f i s) w):=by
 obtain ⟨o,a,b⟩:=i
 dsimp only at ho hab ⊢
 have h:o=1∨o=2∨o=3∨o=4∨o=5∨o=6∨o=7∨o=8∨o=9∨o=10∨o=11∨o=12∨o=13∨o=14∨o=15∨o=16∨o=17∨o=18∨o=19∨o=20∨o=21∨o=22∨o=23∨o=24∨o=25∨o=26∨o=27∨o=28∨o=29:=by omega
 rcases h with rfl | rfl | rfl | rfl | rfl | rfl | rfl | rfl | rfl | rfl | rfl | rfl | rfl | rfl | rfl | rfl | rfl | rfl | rfl | rfl | rfl | rfl | rfl | rfl | rfl | rfl | rfl | rfl | rfl
 · exact ea_1 P hB s1 s2 s3 s4 H Rs hsB hsl F hks hN hab hn
 · exact ea_2 P hB s1 s2 s3 s4 H Rs hsB hsl F hks hN hab hn
 · exact ea_3 P hB s1 s2 s3 s4 H Rs hsB hsl F hks hN hab hn
 · exact ea_4 P hB s1 s2 s3 s4 H Rs hsB hsl F hks hN hab hn
 · exact ea_5 P hB s1 s2 s3 s4 H Rs hsB hsl F hks hN hab hn
 · exact ea_6 P hB s1 s2 s3 s4 H Rs hsB hsl F hks hN hab hn
 · exact ea_7 P hB s1 s2 s3 s4 H Rs hsB hsl F hks hN hab hn
 · exact ea_8 P hB s1 s2 s3 s4 H Rs hsB hsl F hks hN hab hn
 · exact ea_9 P hB s1 s2 s3 s4 H Rs hsB hsl F hks hN hab hn
 · exact ea_10 P hB s1 s2 s3 s4 H Rs hsB hsl F hks hN hab hn
 · exact ea_11 P hB s1 s2 s3 s4 H Rs hsB hsl F hks hN hab hn
 · exact ea_12 P hB s1 s2 s3 s4 H Rs hsB hsl F hks hN hab hn
 · exact ea_13 P hB s1 s2 s3 s4 H Rs hsB hsl F hks hN hab hn
 · exact ea_14 P hB s1 s2 s3 s4 H Rs hsB hsl F hks hN hab hn
 · exact ea_15 P hB s1 s2 s3 s4 H Rs hsB hsl F hks hN hab hn
 · exact ea_16 P hB s1 s2 s3 s4 H Rs hsB hsl F hks hN hab hn
 · exact ea_17 P hB s1 s2 s3 s4 H Rs hsB hsl F hks hN hab hn
 · exact ea_18 P hB s1 s2 s3 s4 H Rs hsB hsl F hks hN hab hn
 · exact ea_19 P hB s1 s2 s3 s4 H Rs hsB hsl F hks hN hab hn
 · exact ea_20 P hB s1 s2 s3 s4 H Rs hsB hsl F hks hN hab hn
 · exact ea_21 P hB s1 s2 s3 s4 H Rs hsB hsl F hks hN hab hn
 · exact ea_22 P hB s1 s2 s3 s4 H Rs hsB hsl F hks hN hab hn
 · exact ea_23 P hB s1 s2 s3 s4 H Rs hsB hsl F hks hN hab hn
 · exact ea_24 P hB s1 s2 s3 s4 H Rs hsB hsl F hks hN hab hn
 · exact ea_25 P hB s1 s2 s3 s4 H Rs hsB hsl F hks hN hab hn
 · exact ea_26 P hB s1 s2 s3 s4 H Rs hsB hsl F hks hN hab hn
 · exact ea_27 P hB s1 s2 s3 s4 H Rs hsB hsl F hks hN hab hn
 · exact ea_28 P hB s1 s2 s3 s4 H Rs hsB hsl F hks hN hab hn
 · exact ea_29 P hB s1 s2 s3 s4 H Rs hsB hsl F hks hN hab hn
end
end Go.Proofs.YtkdojpnihinpbaaGreatDoor
