/- Size. -/
import Derived.Test.YtkdojpnihinpbaaGreatDoorVfCkJo
import Derived.Test.YtkdojpnihinpbaaGreatDoorVfHJo
import Derived.Deep.CutRange
import Derived.Test.YtkdojpnihinpbaaGreatDoorVfTkJo
namespace Go.Proofs.YtkdojpnihinpbaaGreatDoor
open Go.RowKit
def arW (p:Pg) (l:List Int):Nat:=(l.map fun t=>((p.ty[t.toNat]?).getD []).length).sum
def szP (p:Pg) (f:Fd) (F:Fl):Nat:=f.lo.length+F.mo+arW p f.ar
def SzO (p:Pg) (m:Int) (w:World) (e:Ending) (W:World):Prop:=Below w.heap.size w W ∧
  (((checkP p).2.2≠0∧e=.returned (.tuple #[.int .i64 0,.int .i64 (checkP p).2.2])) ∨
  ((checkP p).2.2=0∧inB m p.fu.length=false∧e=.returned (.tuple #[.int .i64 0,.int .i64 6])) ∨
  ∃ (k:Nat) (f:Fd) (F:Fl),(checkP p).2.2=0∧m=(k:Int)∧p.fu[k]?=some f∧followP p f=.ok F∧e=.returned (.tuple #[.int .i64 (szP p f F:Int),.int .i64 0]))
theorem arW_next {p:Pg} {l:List Int} {j:Nat} {x:Int} (h:l[j]?=some x):arW p (l.take (j+1))=arW p (l.take j)+((p.ty[x.toNat]?).getD []).length:=by
 unfold arW
 rw [List.take_add_one,h]
 simp
theorem arW_le {p:Pg} (H:∀ l∈p.ty,l.length≤4096):∀ l:List Int,arW p l≤4096*l.length
  | []=>by simp [arW]
  | x :: r=>by
   have ih:=arW_le H r
   have:((p.ty[x.toNat]?).getD []).length≤4096:=by
    cases h:p.ty[x.toNat]? with
    | none=>simp
    | some l=>exact H l (List.mem_of_getElem? h)
   unfold arW at *
   simp only [List.map_cons,List.sum_cons,List.length_cons]
   omega
def SzR (p:Pg) (l:List Int) (b:Nat) (w:World) (a c:Value) (wr:World):Prop:=∃ j:Nat,c=.int .i64 j∧j≤l.length∧a=.int .i64 ((b+arW p (l.take j):Nat):Int)∧Below w.heap.size w wr
section
variable {B:Nat} {w:World} {p:Pg}
set_option maxRecDepth 100000 in
set_option maxHeartbeats 1000000 in
theorem size_any {v1 v2 v3 v4:Value} (P:PgAt B w v1 v2 v3 v4 p) (hB:B≤w.heap.size) (hT:Tb w) (hb0:0<B) (m:Int):Calls Tryz.prog 8 #[.agg #[v1,v2,v3,v4],.int .i64 m] w (SzO p m w):=by
 obtain ⟨a1,d1,hv1⟩:=sl_form P.ty
 obtain ⟨a2,d2,hv2⟩:=sl_form P.fu
 obtain ⟨a3,d3,hv3⟩:=sl_form P.ta
 obtain ⟨a4,d4,hv4⟩:=sl_form P.st
 subst hv1 hv2 hv3 hv4
 obtain ⟨W1,hW1⟩ : ∃ W1,w.alloc (.cells #[.slice a1 p.ty.length d1,.slice a2 p.fu.length d2,.slice a3 p.ta.length d3,.slice a4 p.st.length d4] 27)=W1:=⟨_,rfl⟩
 have b1:Below w.heap.size w W1:=by rw [← hW1];exact (Below.refl _ _).alloc (Nat.le_refl _) _
 have e1:W1.heap[w.heap.size]?=some (.cells #[.slice a1 p.ty.length d1,.slice a2 p.fu.length d2,.slice a3 p.ta.length d3,.slice a4 p.st.length d4] 27 (0,0)):=by rw [← hW1];exact heap_new _ _ rfl
 have HBX:=hide (show ∀ W:World,Below W1.heap.size W1 W→W.cell? ⟨w.heap.size,0,none⟩=some (.slice a1 p.ty.length d1)∧W.cell? ⟨w.heap.size,1,none⟩=some (.slice a2 p.fu.length d2)∧W.cell? ⟨w.heap.size,2,none⟩=some (.slice a3 p.ta.length d3)∧W.cell? ⟨w.heap.size,3,none⟩=some (.slice a4 p.st.length d4) from fun W h=>by
  have h1:=(h.block _ (lt_of_block e1)).trans e1
  exact ⟨cell_of h1 rfl,cell_of h1 rfl,cell_of h1 rfl,cell_of h1 rfl⟩)
 have HPG:=hide (show ∀ W:World,Below W1.heap.size W1 W→PgAt B W (.slice a1 p.ty.length d1) (.slice a2 p.fu.length d2) (.slice a3 p.ta.length d3) (.slice a4 p.st.length d4) p∧B≤W.heap.size∧Tb W from fun W h=>⟨P.keep (Nat.le_refl _) (fun j hj=>(bel_tr b1 h).block j (Nat.lt_of_lt_of_le hj hB)),Nat.le_trans hB (bel_tr b1 h).size,hT.keep ((bel_tr b1 h).block 0 (Nat.lt_of_lt_of_le hb0 hB))⟩)
 have HB1:=hide b1
 obtain ⟨k0,k1,k2,k3⟩:=HBX.out W1 (Below.refl _ _)
 have hl0:=lt_of_block e1
 have HSF:=hide (soundFlow_any (HPG.out W1 (Below.refl _ _)).1 (HPG.out W1 (Below.refl _ _)).2.1 (HPG.out W1 (Below.refl _ _)).2.2 hb0 m)
 clear P hB hT hb0 b1 e1
 obtain ⟨n1,hN1⟩ : ∃ n,p.ty.length=n:=⟨_,rfl⟩
 rw [hN1] at HBX HPG HSF k0 hW1 ⊢
 have HN1:=hide hN1
 clear hN1
 obtain ⟨n2,hN2⟩ : ∃ n,p.fu.length=n:=⟨_,rfl⟩
 rw [hN2] at HBX HPG HSF k1 hW1 ⊢
 have HN2:=hide hN2
 clear hN2
 generalize p.ta.length=n3 at *
 generalize p.st.length=n4 at *
 go_enter Tryz.func8,Tryz.ntmps8
 go_wp2_with fail
 refine HSF.out.mono ?_
 rintro e w2 ⟨hb2,(⟨hc,rfl⟩ | ⟨hc,hi,rfl⟩ | ⟨k,f,F,A,ahb,wtb,E,V,at_,hc,hm,hf,hF,rfl,hM⟩)⟩
 · have HB2:=hide (bel_tr HB1.out hb2)
   have HC:=hide hc
   obtain ⟨ce,hce⟩ : ∃ c,(checkP p).2.2=c:=⟨_,rfl⟩
   have HF:=hide (show ∀ W,Below w.heap.size w W→SzO p m w (.returned (.tuple #[.int .i64 0,.int .i64 ce])) W from fun W h=>⟨h,.inl ⟨HC.out,by rw [hce]⟩⟩)
   rw [hce] at hc ⊢
   have q0:(ce != 0)=true:=by simpa using hc
   clear hb2 hc hce
   go_wp2
   go_ret2
   exact HF.out _ HB2.out
 · have HB2:=hide (bel_tr HB1.out hb2)
   have HF:=hide (show ∀ W,Below w.heap.size w W→SzO p m w (.returned (.tuple #[.int .i64 0,.int .i64 6])) W from fun W h=>⟨h,.inr (.inl ⟨hc,hi,rfl⟩)⟩)
   clear hb2 hc hi
   go_wp2
   go_ret2
   exact HF.out _ HB2.out
 · obtain ⟨_,o1,o2,_⟩:=check_ok hc
   have H:=hok_of o1 o2
   have hfo:=H.fu f (List.mem_of_getElem? hf)
   have I:=follow_inv H hfo hF
   have HF:=hide (show ∀ W,Below w.heap.size w W→SzO p m w (.returned (.tuple #[.int .i64 (szP p f F:Int),.int .i64 0])) W from fun W h=>⟨h,.inr (.inr ⟨k,f,F,hc,hm,hf,hF,rfl⟩)⟩)
   have c7:w2.cell? ⟨A,7,none⟩=some V.u1:=cell_of hM.fl.box rfl
   have c9:w2.cell? ⟨A,9,none⟩=some V.u3:=cell_of hM.fl.box rfl
   have c13:w2.cell? ⟨A,13,none⟩=some (.int .i64 (F.mo:Int)):=cell_of hM.fl.box rfl
   obtain ⟨x1,z1,h1⟩:=sl_form hM.fl.lo
   obtain ⟨x3,z3,h3⟩:=sl_form hM.fl.ar
   rw [h1] at c7
   rw [h3] at c9
   have hlA:=(hM.lt (.inl rfl)).2
   have RA:=hM.fl.ar
   rw [h3] at RA
   obtain ⟨_,_,hv,_,hel⟩:=RA
   cases hv
   have HEL:=hide (show ∀ (W:World),Below w2.heap.size w2 W→∀ (j:Nat) (t:Int),f.ar[j]?=some t→∃ g o,x3=some ⟨g,o,none⟩∧g<W.heap.size∧W.cell? ⟨g,o+j,none⟩=some (.int .i64 t) from fun W h j t ht=>by
    obtain ⟨g,o,e1,e2,e3,_⟩:=ints_at hel ht
    have hg:g<w2.heap.size:=Nat.lt_of_lt_of_le e2 hM.fl.hB
    exact ⟨g,o,e1,Nat.lt_of_lt_of_le hg h.size,(h.cell (p:=⟨g,o+j,none⟩) hg).trans e3⟩)
   have HAR:=hide hfo.ar
   have HMO:=hide (show f.lo.length≤4096∧F.mo≤300000000∧f.ar.length≤4096 from ⟨hfo.nl,by have:=I.mo;have:=hfo.nc;omega,hfo.na⟩)
   have HAW:=hide (arW_le fun l hl=>(H.ty l hl).2.1)
   have HB2:=hide hb2
   have HSZ:=hide (show szP p f F=f.lo.length+F.mo+arW p f.ar from rfl)
   have hlI:w.heap.size<w2.heap.size:=Nat.lt_of_lt_of_le hl0 hb2.size
   clear hb2 hc hm hf hF hM o1 o2 H hfo I h1 h3 hel k0 k1 k2 k3 hW1
   obtain ⟨k0,k1,k2,k3⟩:=HBX.out w2 HB2.out
   generalize f.lo.length=ll at *
   generalize F.mo=mo at *
   obtain ⟨hb1,hb2,hb3⟩:=HMO.out
   have hwp:IntKind.i64.wrap ((ll:Int)+(mo:Int))=(ll:Int)+(mo:Int):=by
    rw [show (ll:Int)+(mo:Int)=((ll+mo:Nat):Int) by omega]
    exact wrap_nat (by omega)
   generalize hal:f.ar.length=al at *
   have HAL:=hide hal
   clear hal
   go_wp2_with fail
   go_region
   go_wp2
   rw [show (ll:Int)+(mo:Int)=((ll+mo:Nat):Int) by omega]
   have HB3:=hide (show Below w2.heap.size w2 w2.drew from below_drew (Below.refl _ _))
   go_loopw [8,37] (fun a c wr=>SzR p f.ar (ll+mo) w2 a c wr) (fun _ c _=>al - (intOf c).toNat)
   case atStart=>exact ⟨0,rfl,Nat.zero_le _,rfl,HB3.out⟩
   case round =>
    obtain ⟨j,rfl,hj,rfl,hb⟩:=hrel
    have HBR:=hide hb
    rw [HAL.out] at hj
    clear hb k0 k1 k2 k3 c7 c9 c13
    obtain ⟨k0,k1,k2,k3⟩:=HBX.out wr (bel_tr HB2.out HBR.out)
    have hlw:w.heap.size<wr.heap.size:=Nat.lt_of_lt_of_le hlI HBR.out.size
    by_cases hlt:j<al
    · obtain ⟨t,ht⟩ : ∃ t,f.ar[j]?=some t:=⟨f.ar[j]'(by rw [HAL.out];exact hlt),by simp⟩
      obtain ⟨g,o,rfl,hg,hc⟩:=HEL.out wr HBR.out j t ht
      obtain ⟨tk,rfl,htk⟩:=in_nat (HAR.out t (List.mem_of_getElem? ht))
      obtain ⟨l,hl⟩ : ∃ l,p.ty[tk]?=some l:=⟨p.ty[tk],by simp⟩
      obtain ⟨PW,hBw,_⟩:=HPG.out wr (bel_tr HB2.out HBR.out)
      obtain ⟨g2,o2,c2,nn,u,hv,hnn,hlt2,hg2,hc2,hsl⟩:=lst_at PW.ty hl
      cases hv
      obtain ⟨ua,uc,rfl⟩:=sl_form hsl
      have hg2w:g2<wr.heap.size:=Nat.lt_of_lt_of_le hg2 hBw
      have d1:decide (j<al)=true:=by simpa using hlt
      have d2:decide (tk<n1)=true:=by simpa using hlt2
      have HNX:=hide (show ll+mo+arW p (f.ar.take (j+1))=ll+mo+arW p (f.ar.take j)+l.length from by rw [arW_next ht,Int.toNat_natCast,hl,Option.getD_some];omega)
      have hle:ll+mo+arW p (f.ar.take (j+1))≤400000000:=by
       have h1:=HAW.out (f.ar.take (j+1))
       have h2:(f.ar.take (j+1)).length≤4096:=by rw [List.length_take,HAL.out];omega
       omega
      rw [HNX.out] at hle
      clear PW hnn hsl hl ht htk
      generalize l.length=len at *
      obtain ⟨base,hba⟩ : ∃ b,ll+mo+arW p (f.ar.take j)=b:=⟨_,rfl⟩
      rw [hba] at hle HNX ⊢
      clear hba
      have hwb:IntKind.i64.wrap ((base:Int)+(len:Int))=(base:Int)+(len:Int):=by
       rw [show (base:Int)+(len:Int)=((base+len:Nat):Int) by omega]
       exact wrap_nat (by omega)
      have d3:(j:Int)≤4096:=by omega
      go_wp2
      go_roundw
      case rel=>exact ⟨j+1,by first | exact num_next hlt (by omega) | go_num,by rw [HAL.out];exact hlt,by rw [HNX.out];first | rfl | (congr 1;omega),HBR.out⟩
      case measure=>first | exact meas_int hlt (by omega) | (rw [intOf_int,intOf_int];omega)
    · obtain rfl:al=j:=by omega
      have d1:decide (al<al)=false:=by simp
      have HE:=hide (show ll+mo+arW p (f.ar.take al)=szP p f F from by rw [HSZ.out,← HAL.out,List.take_length])
      rw [HE.out]
      go_wp2
      go_ret2
      exact HF.out _ (bel_tr HB1.out (bel_tr HB2.out HBR.out))
end
end Go.Proofs.YtkdojpnihinpbaaGreatDoor

namespace Go.Proofs.YtkdojpnihinpbaaGreatDoor
open Go.RowKit
theorem sl_nil {α:Type} {k:Nat} {P:World→List Value→α→Prop} {B:Nat} {w:World}:SlAt k P B w (.slice none 0 0) ([]:List α):=⟨none,0,rfl,⟨by simp,by simp,by unfold maxLen;omega⟩,fun j x hx=>by simp at hx⟩
section
variable {w:World}
end
end Go.Proofs.YtkdojpnihinpbaaGreatDoor

namespace Go.Proofs.YtkdojpnihinpbaaGreatDoor
section
variable {p q:Pg} {f g:Fd} {i:In3}
end
end Go.Proofs.YtkdojpnihinpbaaGreatDoor

namespace Go.Proofs.YtkdojpnihinpbaaGreatDoor
section
variable {p:Pg}
end
end Go.Proofs.YtkdojpnihinpbaaGreatDoor

namespace Go.Proofs.YtkdojpnihinpbaaGreatDoor
open Go.RowKit
section
variable {α:Type} {k B:Nat} {P:World→List Value→α→Prop} {w w' : World}
theorem run_nil_cap {t ty e:TypeId} {i:TypeInfo} {C n:Nat} {v:Value} {xs:List Value} (ht:Tryz.prog.underlying t=some (.slice e)) (hi:Tryz.prog.info? e=some i) (hown:w.ownsRow C e k v n xs) (c:Nat):(Builtin.append_ #[t,t] ty #[v,.slice none 0 c]).run Tryz.prog w=.ok v w:=by
 rcases hown.2 with ⟨rfl,rfl⟩ | ⟨g,cap,cur,rfl,_,_,hnc,_⟩
 · simp [Builtin.append_,run_underlying ht,sizeOf,typeInfo,hi,Builtin.lenOf,Builtin.firstCells]
 · simp [Builtin.append_,run_underlying ht,sizeOf,typeInfo,hi,Builtin.lenOf,Builtin.firstCells,hnc,storeCells]
end
section
variable {α:Type} {k bE:Nat}
theorem owns_emp {W:World} {e bE:Nat} (h:W.heap[bE]?=some (.cells #[] e (0,0))):W.ownsRow bE e k (.slice (some ⟨bE,0,none⟩) 0 0) 0 [] :=
  ⟨by simp,.inr ⟨bE,0,#[],rfl,Nat.le_refl _,h,Nat.le_refl _,by decide,by simp,by simp⟩⟩
theorem own_ge {W:World} {C e n:Nat} {v:Value} {xs:List Value} (h:W.ownsRow C e k v n xs):∀ g,v.ownBlock=some g→C≤g∧g<W.heap.size:=by
 intro g hg
 rcases h.2 with ⟨rfl,_⟩ | ⟨g',cap,cur,rfl,h1,h2,_⟩
 · cases hg
 · cases hg
   exact ⟨h1,lt_of_block h2⟩
end
end Go.Proofs.YtkdojpnihinpbaaGreatDoor

namespace Go.Proofs.YtkdojpnihinpbaaGreatDoor
open Go.RowKit
section
variable {W:World} {g T:Nat} {f:Nat × Nat}
end
section
variable {B b:Nat} {W4:World} {v:Value}
end
end Go.Proofs.YtkdojpnihinpbaaGreatDoor

namespace Go.Proofs.YtkdojpnihinpbaaGreatDoor
open Go.RowKit
section
variable {Wb X:World} {B b:Nat} {l:List (List Int)} {fl:Int} {e0:Option Nat} {v5:Option Value} {i1 i2:Option Nat} {v:Value}
theorem al_old (X:World) (o:Obj) {j:Nat} {u:Obj} (h:X.heap[j]?=some u):(X.alloc o).heap[j]?=some u:=by rw [heap_alloc_old _ _ (lt_of_block h)];exact h
end
end Go.Proofs.YtkdojpnihinpbaaGreatDoor

namespace Go.Proofs.YtkdojpnihinpbaaGreatDoor
open Go.RowKit
theorem info_intsD:(Tryz.prog.info? 37).map (fun i=>(i.zero,i.size,i.bytes))=some (some (.slice none 0 0),1,24):=by kernel_rfl
theorem info_boolD:(Tryz.prog.info? 4).map (fun i=>(i.zero,i.size,i.bytes))=some (some (.bool false),1,1):=by kernel_rfl
theorem made_one (v:Value) (n:Nat):madeCells #[v] n=(List.replicate n v).toArray:=by
 apply Array.ext
 · simp [madeCells]
 · intro i h1 h2
   simp [madeCells,Nat.mod_one]
theorem run_intss (w:World) (n:Nat) (hn:n≤65536):(Instr.makeSlice 24 (.int .i64 n) (.int .i64 n)).run Tryz.prog w=.ok (.slice (some ⟨w.heap.size,0,none⟩) n n) (w.alloc (.cells (List.replicate n (Value.slice none 0 0)).toArray 37)):=by
 obtain ⟨i0,hi,hz0,hz1,hz2⟩:=info_parts info_intsD
 have hmk:=run_make (P:=Tryz.prog) w 24 37 i0 (.slice none 0 0) Tryz.underlying24 hi hz0 .i64 .i64 n n (by omega) (Int.le_refl _) (by rw [hz2];omega) (by omega)
 rw [hz1] at hmk
 simp only [Int.toNat_natCast,Nat.mul_one] at hmk
 rw [show (Value.slice none 0 0).cells=#[Value.slice none 0 0] from rfl,made_one] at hmk
 exact hmk
theorem run_bools (w:World) (n:Nat) (hn:n≤65536):(Instr.makeSlice 47 (.int .i64 n) (.int .i64 n)).run Tryz.prog w=.ok (.slice (some ⟨w.heap.size,0,none⟩) n n) (w.alloc (.cells (List.replicate n (Value.bool false)).toArray 4)):=by
 obtain ⟨i0,hi,hz0,hz1,hz2⟩:=info_parts info_boolD
 have hmk:=run_make (P:=Tryz.prog) w 47 4 i0 (.bool false) Tryz.underlying47 hi hz0 .i64 .i64 n n (by omega) (Int.le_refl _) (by rw [hz2];omega) (by omega)
 rw [hz1] at hmk
 simp only [Int.toNat_natCast,Nat.mul_one] at hmk
 rw [show (Value.bool false).cells=#[Value.bool false] from rfl,made_one] at hmk
 exact hmk
section
variable {ah:List (Option (List Int))} {L sb cb k:Nat} {w2 W W' : World} {scs ccs:List Value}
theorem ints_block {g:Nat} {s:List Int} (h:W.heap[g]?=some (.cells (ivs s).toArray 3 (0,0))) (hb:∀ x∈s,-9223372036854775808≤x∧x≤9223372036854775807) (hl:s.length≤300000000):SlAt 1 IntP W.heap.size W (.slice (some ⟨g,0,none⟩) s.length s.length) s:=by
 refine ⟨_,_,rfl,⟨by omega,Nat.le_refl _,by unfold maxLen;omega⟩,fun j x hx=>⟨g,0,[.int .i64 x],rfl,lt_of_block h,fun r u hr=>?_,rfl,hb x (List.mem_of_getElem? hx)⟩⟩
 match r,hr with
 | 0,hr =>
  cases hr
  refine cell_of h ?_
  rw [Nat.zero_add,Nat.add_zero,Nat.mul_one,List.getElem?_toArray]
  simp [ivs,hx]
end
section
variable {B:Nat} {w:World} {p:Pg}
end
end Go.Proofs.YtkdojpnihinpbaaGreatDoor

namespace Go.Proofs.YtkdojpnihinpbaaGreatDoor
section
variable {p:Pg} {n:Nat} {f:Fd} {j:List In3}
end
end Go.Proofs.YtkdojpnihinpbaaGreatDoor

namespace Go.Proofs.YtkdojpnihinpbaaGreatDoor
open Go.RowKit
theorem owns_weak {W:World} {C C' e k n:Nat} {v:Value} {xs:List Value} (h:W.ownsRow C e k v n xs) (hC:C'≤C):W.ownsRow C' e k v n xs:=by
 refine ⟨h.1,?_⟩
 rcases h.2 with h | ⟨g,cap,cur,hv,h1,h2⟩
 · exact .inl h
 · exact .inr ⟨g,cap,cur,hv,Nat.le_trans hC h1,h2⟩
section
variable {bE g k B:Nat} {cur:Array Value} {Wq W X:World} {vc:Value} {c:List In3}
end
end Go.Proofs.YtkdojpnihinpbaaGreatDoor
