/- The document's Sound. -/
import Derived.Test.YtkdojpnihinpbaaGreatDoorVfKJo
import Derived.Test.YtkdojpnihinpbaaGreatDoorCdS0Jo
import Derived.Test.YtkdojpnihinpbaaGreatDoorVfLbJo
import Derived.Test.YtkdojpnihinpbaaGreatDoorVfRwJo
import Derived.Test.YtkdojpnihinpbaaGreatDoorVfCnJo
namespace Go.Proofs.YtkdojpnihinpbaaGreatDoor
open Go.RowKit
theorem sndP_iff (p:Pg):sndP p=true ↔ (p.ty.length≤1024∧p.fu.length≤4096∧p.ta.length≤1024∧p.st.length≤1024)∧p.ty.all sndL=true∧p.fu.all sndF=true∧p.ta.all sndL=true∧p.st.all sndS=true:=by
 simp only [sndP,eachB,Bool.and_eq_true,decide_eq_true_eq]
 constructor
 · rintro ⟨⟨a,b⟩,⟨c,d⟩,⟨e,f⟩,g,h⟩;exact ⟨⟨a,c,e,g⟩,b,d,f,h⟩
 · rintro ⟨⟨a,c,e,g⟩,b,d,f,h⟩;exact ⟨⟨a,b⟩,⟨c,d⟩,⟨e,f⟩,g,h⟩
theorem sndF_iff (f:Fd):sndF f=true ↔ (f.lo.length≤4096∧0≤f.pa∧f.pa≤(f.lo.length:Int)∧f.re.length≤4096∧f.ar.length≤4096∧f.co.length≤65536)∧f.co.all sndI=true:=by
 simp only [sndF,eachB,Bool.and_eq_true,decide_eq_true_eq]
 constructor
 · rintro ⟨a,b,c,d,e,f,g⟩;exact ⟨⟨a,b,c,d,e,f⟩,g⟩
 · rintro ⟨⟨a,b,c,d,e,f⟩,g⟩;exact ⟨a,b,c,d,e,f,g⟩
theorem false_of {b:Bool} {P:Prop} (h:b=true ↔ P) (hn:¬ P):b=false:=by
 cases b with
 | false=>rfl
 | true=>exact absurd (h.mp rfl) hn
def SoR {α:Type} (W:World) (s:α→Bool) (l:List α) (n:Nat) (a:Value) (wr:World):Prop:=∃ j:Nat,a=.int .i64 j∧j≤n∧(l.take j).all s=true∧Below W.heap.size W wr
section
variable {w:World} {B:Nat}
set_option maxRecDepth 100000 in
set_option maxHeartbeats 2000000 in
theorem gsound_any {p:Pg} {v1 v2 v3 v4:Value} (R:PgAt B w v1 v2 v3 v4 p) (hB:B≤w.heap.size):Calls Tryz.prog 23 #[.agg #[v1,v2,v3,v4]] w fun e w'=>e=.returned (.bool (sndP p))∧Below w.heap.size w w':=by
 obtain ⟨W1,hW1⟩ : ∃ W1,w.alloc (.cells #[v1,v2,v3,v4] 27)=W1:=⟨_,rfl⟩
 have hz1:W1.heap.size=w.heap.size+1:=by rw [← hW1];simp
 have B1:Below w.heap.size w W1:=by rw [← hW1];exact (Below.refl _ _).alloc (Nat.le_refl _) _
 have e1:W1.heap[w.heap.size]?=some (.cells #[v1,v2,v3,v4] 27 (0,0)):=by rw [← hW1];exact heap_new _ _ rfl
 have KP:=hide (show ∀ wr,Below W1.heap.size W1 wr→PgAt B wr v1 v2 v3 v4 p∧wr.heap[w.heap.size]?=some (.cells #[v1,v2,v3,v4] 27 (0,0))∧Below w.heap.size w wr from fun wr h =>
  ⟨R.keep (Nat.le_refl _) (fun j hj=>(h.block j (by omega)).trans (B1.block j (by omega))),(h.block _ (by omega)).trans e1,B1.trans (h.mono (by omega))⟩)
 obtain ⟨a1,n1,hv1,hl1,_⟩:=R.ty
 obtain ⟨a2,n2,hv2,hl2,_⟩:=R.fu
 obtain ⟨a3,n3,hv3,hl3,_⟩:=R.ta
 obtain ⟨a4,n4,hv4,hl4,_⟩:=R.st
 subst hv1 hv2 hv3 hv4
 have HSI:=hide (sndP_iff p)
 have c0:W1.cell? ⟨w.heap.size,0,none⟩=some (.slice a1 p.ty.length n1):=cell_of e1 rfl
 have c1:W1.cell? ⟨w.heap.size,1,none⟩=some (.slice a2 p.fu.length n2):=cell_of e1 rfl
 have c2:W1.cell? ⟨w.heap.size,2,none⟩=some (.slice a3 p.ta.length n3):=cell_of e1 rfl
 have c3:W1.cell? ⟨w.heap.size,3,none⟩=some (.slice a4 p.st.length n4):=cell_of e1 rfl
 have HB1:=hide B1
 have HBr:=hide (show ∀ wr,Below W1.heap.size W1 wr→B≤wr.heap.size from fun wr h=>by have:=h.size;omega)
 clear R hB B1 e1 hz1
 generalize hN1:p.ty.length=N1 at *
 generalize hN2:p.fu.length=N2 at *
 generalize hN3:p.ta.length=N3 at *
 generalize hN4:p.st.length=N4 at *
 have HN1:=hide hN1
 have HN2:=hide hN2
 have HN3:=hide hN3
 have HN4:=hide hN4
 clear hN1 hN2 hN3 hN4 hl1 hl2 hl3 hl4
 by_cases g1:1024<N1
 · have d1:decide ((1024:Int)<(N1:Int))=true:=by simp;omega
   have HF:=hide (false_of HSI.out (by intro h;omega))
   clear g1
   go_enter Tryz.func23,Tryz.ntmps23
   go_wp2
   go_ret
   rw [HF.out]
   exact ⟨rfl,HB1.out⟩
 have d1:decide ((1024:Int)<(N1:Int))=false:=by simp;omega
 have b1:(N1:Int)≤1024:=by omega
 by_cases g2:4096<N2
 · have d2:decide ((4096:Int)<(N2:Int))=true:=by simp;omega
   have HF:=hide (false_of HSI.out (by intro h;omega))
   clear g1 g2
   go_enter Tryz.func23,Tryz.ntmps23
   go_wp2
   go_ret
   rw [HF.out]
   exact ⟨rfl,HB1.out⟩
 have d2:decide ((4096:Int)<(N2:Int))=false:=by simp;omega
 have b2:(N2:Int)≤4096:=by omega
 by_cases g3:1024<N3
 · have d3:decide ((1024:Int)<(N3:Int))=true:=by simp;omega
   have HF:=hide (false_of HSI.out (by intro h;omega))
   clear g1 g2 g3
   go_enter Tryz.func23,Tryz.ntmps23
   go_wp2
   go_ret
   rw [HF.out]
   exact ⟨rfl,HB1.out⟩
 have d3:decide ((1024:Int)<(N3:Int))=false:=by simp;omega
 have b3:(N3:Int)≤1024:=by omega
 by_cases g4:1024<N4
 · have d4:decide ((1024:Int)<(N4:Int))=true:=by simp;omega
   have HF:=hide (false_of HSI.out (by intro h;omega))
   clear g1 g2 g3 g4
   go_enter Tryz.func23,Tryz.ntmps23
   go_wp2
   go_ret
   rw [HF.out]
   exact ⟨rfl,HB1.out⟩
 have d4:decide ((1024:Int)<(N4:Int))=false:=by simp;omega
 have b4:(N4:Int)≤1024:=by omega
 have HG:=hide (show N1≤1024∧N2≤4096∧N3≤1024∧N4≤1024 by omega)
 clear g1 g2 g3 g4
 go_enter Tryz.func23,Tryz.ntmps23
 go_wp2
 clear hW1
 go_loopw [3] (fun a wr=>SoR W1 sndL p.ty N1 a wr) (fun a _=>N1 - (intOf a).toNat)
 case atStart=>exact ⟨0,rfl,Nat.zero_le _,by simp,Below.refl _ _⟩
 case round =>
  obtain ⟨j,rfl,hj,hall,hb⟩:=hrel
  have HBB:=hide hb
  have HAL:=hide hall
  obtain ⟨R,k1,hbw⟩:=KP.out wr hb
  have HBW:=hide hbw
  have q0:wr.cell? ⟨w.heap.size,0,none⟩=some (.slice a1 N1 n1):=cell_of k1 rfl
  by_cases hlt:j<N1
  · obtain ⟨x,hx⟩ : ∃ x,p.ty[j]?=some x:=⟨p.ty[j]'(by rw [HN1.out];exact hlt),by simp⟩
    obtain ⟨g,o,cs,rfl,hgl,hcs,y1,rfl,f1,g1,hy1,_⟩:=R.ty.get hx
    subst hy1
    have t1:wr.cell? ⟨g,o+j,none⟩=some (.slice f1 x.length g1):=by have:=hcs 0 _ rfl;simpa using this
    have l1:decide (j<N1)=true:=by simpa using hlt
    have HX:=hide hx
    by_cases hs:sndL x=true
    · have hs2:=hs
      simp only [sndL,decide_eq_true_eq] at hs2
      have dd:decide ((4096:Int)<(x.length:Int))=false:=by simp;omega
      have HNX:=hide (all_next hx hall hs)
      clear hcs hx hb R k1 hbw hgl hs hs2 hall
      go_wp2
      go_roundw
      case rel=>exact ⟨j+1,by go_num,hlt,HNX.out,HBB.out⟩
      case measure=>rw [intOf_int];simp [intOf];omega
    · have hs2:=hs
      simp only [sndL,decide_eq_true_eq] at hs2
      have dd:decide ((4096:Int)<(x.length:Int))=true:=by simp;omega
      have HF:=hide (false_of HSI.out (by rintro ⟨_,h1,h2,h3,h4⟩;have h:=List.all_eq_true.mp h1 x (List.mem_of_getElem? hx);exact hs h))
      clear hcs hx hb R k1 hbw hgl hs hs2 hall
      go_wp2
      go_ret
      rw [HF.out]
      exact ⟨rfl,HBW.out⟩
  · obtain rfl:j=N1:=by omega
    have l1:decide (j<j)=false:=by simp
    have HA1:=hide (show p.ty.all sndL=true by rw [List.take_of_length_le (by rw [HN1.out];exact Nat.le_refl _)] at hall;exact hall)
    clear hb R k1 hbw hall
    go_wp2
    go_loopw [4] (fun a wr=>SoR W1 sndF p.fu N2 a wr) (fun a _=>N2 - (intOf a).toNat)
    case atStart=>exact ⟨0,rfl,Nat.zero_le _,by simp,HBB.out⟩
    case round =>
     clear HBB HBW HAL
     obtain ⟨j,rfl,hj,hall,hb⟩:=hrel
     have HBB:=hide hb
     have HAL:=hide hall
     obtain ⟨R,k1,hbw⟩:=KP.out wr hb
     have HBW:=hide hbw
     have q0:wr.cell? ⟨w.heap.size,1,none⟩=some (.slice a2 N2 n2):=cell_of k1 rfl
     by_cases hlt:j<N2
     · obtain ⟨x,hx⟩ : ∃ x,p.fu[j]?=some x:=⟨p.fu[j]'(by rw [HN2.out];exact hlt),by simp⟩
       obtain ⟨g,o,cs,rfl,hgl,hcs,y1,y2,y3,y4,rfl,_,r1,r2,r3,r4⟩:=R.fu.get hx
       have HR4:=hide r4
       obtain ⟨f1,g1,hy1,_⟩:=r1
       obtain ⟨f2,g2,hy2,_⟩:=r2
       obtain ⟨f3,g3,hy3,_⟩:=r3
       obtain ⟨f4,g4,hy4,_⟩:=r4
       subst hy1 hy2 hy3 hy4
       have t0:wr.cell? ⟨g,o+j*5,none⟩=some (.int .i64 x.pa):=by have:=hcs 0 _ rfl;simpa using this
       have t1:wr.cell? ⟨g,o+j*5+1,none⟩=some (.slice f1 x.lo.length g1):=by have:=hcs 1 _ rfl;simpa using this
       have t2:wr.cell? ⟨g,o+j*5+2,none⟩=some (.slice f2 x.re.length g2):=by have:=hcs 2 _ rfl;simpa using this
       have t3:wr.cell? ⟨g,o+j*5+3,none⟩=some (.slice f3 x.ar.length g3):=by have:=hcs 3 _ rfl;simpa using this
       have t4:wr.cell? ⟨g,o+j*5+4,none⟩=some (.slice f4 x.co.length g4):=by have:=hcs 4 _ rfl;simpa using this
       have l1:decide (j<N2)=true:=by simpa using hlt
       obtain ⟨W5,hW5⟩ : ∃ W5,wr.alloc (.cells #[.int .i64 x.pa,.slice f1 x.lo.length g1,.slice f2 x.re.length g2,.slice f3 x.ar.length g3,.slice f4 x.co.length g4] 40)=W5:=⟨_,rfl⟩
       have h5:W5.heap[wr.heap.size]?=some (.cells #[.int .i64 x.pa,.slice f1 x.lo.length g1,.slice f2 x.re.length g2,.slice f3 x.ar.length g3,.slice f4 x.co.length g4] 40 (0,0)):=by rw [← hW5];exact heap_new _ _ rfl
       have hB5:Below wr.heap.size wr W5:=by rw [← hW5];exact (Below.refl _ _).alloc (Nat.le_refl _) _
       have s0:W5.cell? ⟨wr.heap.size,0,none⟩=some (.int .i64 x.pa):=cell_of h5 rfl
       have s1:W5.cell? ⟨wr.heap.size,1,none⟩=some (.slice f1 x.lo.length g1):=cell_of h5 rfl
       have s2:W5.cell? ⟨wr.heap.size,2,none⟩=some (.slice f2 x.re.length g2):=cell_of h5 rfl
       have s3:W5.cell? ⟨wr.heap.size,3,none⟩=some (.slice f3 x.ar.length g3):=cell_of h5 rfl
       have s4:W5.cell? ⟨wr.heap.size,4,none⟩=some (.slice f4 x.co.length g4):=cell_of h5 rfl
       have HB5:=hide (hb.trans (hB5.mono hb.size))
       have HW5:=hide (KP.out W5 HB5.out).2.2
       have HNX:=hide (show sndF x=true→_ from all_next hx hall)
       have HF:=hide (show ¬ sndF x=true→sndP p=false from fun hs=>false_of HSI.out (by rintro ⟨_,h1,h2,h3,h4⟩;exact hs (List.all_eq_true.mp h2 x (List.mem_of_getElem? hx))))
       have HSF:=hide (sndF_iff x)
       have HC5:=hide (ins_keep (Nat.le_refl _) (fun i hi=>hB5.block i (Nat.lt_of_lt_of_le hi (HBr.out wr hb))) HR4.out)
       have KF:=hide (show ∀ W,Below W5.heap.size W5 W→W.heap[wr.heap.size]?=some (.cells #[.int .i64 x.pa,.slice f1 x.lo.length g1,.slice f2 x.re.length g2,.slice f3 x.ar.length g3,.slice f4 x.co.length g4] 40 (0,0))∧(∀ i,i<B→W.heap[i]?=W5.heap[i]?)∧Below W1.heap.size W1 W∧Below w.heap.size w W from fun W h=>⟨(h.block _ (lt_of_block h5)).trans h5,fun i hi=>h.block i (Nat.lt_of_lt_of_le hi (HBr.out W5 HB5.out)),HB5.out.trans (h.mono HB5.out.size),HW5.out.trans (h.mono HW5.out.size)⟩)
       clear hcs hx hb R k1 hbw hgl hall hB5 h5 HR4
       by_cases m1:4096<x.lo.length
       · have u1:decide ((4096:Int)<(x.lo.length:Int))=true:=by simp;omega
         have HFF:=hide (HF.out (by rw [HSF.out];intro h;omega))
         clear m1 HF
         go_wp2
         go_ret
         rw [HFF.out]
         exact ⟨rfl,HW5.out⟩
       have u1:decide ((4096:Int)<(x.lo.length:Int))=false:=by simp;omega
       by_cases m2:x.pa<0
       · have u2:decide (x.pa<0)=true:=by simp;omega
         have HFF:=hide (HF.out (by rw [HSF.out];intro h;omega))
         clear m1 m2 HF
         go_wp2
         go_ret
         rw [HFF.out]
         exact ⟨rfl,HW5.out⟩
       have u2:decide (x.pa<0)=false:=by simp;omega
       by_cases m3:(x.lo.length:Int)<x.pa
       · have u3:decide ((x.lo.length:Int)<x.pa)=true:=by simp;omega
         have HFF:=hide (HF.out (by rw [HSF.out];intro h;omega))
         clear m1 m2 m3 HF
         go_wp2
         go_ret
         rw [HFF.out]
         exact ⟨rfl,HW5.out⟩
       have u3:decide ((x.lo.length:Int)<x.pa)=false:=by simp;omega
       by_cases m4:4096<x.re.length
       · have u4:decide ((4096:Int)<(x.re.length:Int))=true:=by simp;omega
         have HFF:=hide (HF.out (by rw [HSF.out];intro h;omega))
         clear m1 m2 m3 m4 HF
         go_wp2
         go_ret
         rw [HFF.out]
         exact ⟨rfl,HW5.out⟩
       have u4:decide ((4096:Int)<(x.re.length:Int))=false:=by simp;omega
       by_cases m5:4096<x.ar.length
       · have u5:decide ((4096:Int)<(x.ar.length:Int))=true:=by simp;omega
         have HFF:=hide (HF.out (by rw [HSF.out];intro h;omega))
         clear m1 m2 m3 m4 m5 HF
         go_wp2
         go_ret
         rw [HFF.out]
         exact ⟨rfl,HW5.out⟩
       have u5:decide ((4096:Int)<(x.ar.length:Int))=false:=by simp;omega
       by_cases m6:65536<x.co.length
       · have u6:decide ((65536:Int)<(x.co.length:Int))=true:=by simp;omega
         have HFF:=hide (HF.out (by rw [HSF.out];intro h;omega))
         clear m1 m2 m3 m4 m5 m6 HF
         go_wp2
         go_ret
         rw [HFF.out]
         exact ⟨rfl,HW5.out⟩
       have u6:decide ((65536:Int)<(x.co.length:Int))=false:=by simp;omega
       have HSM:=hide (show x.lo.length≤4096∧0≤x.pa∧x.pa≤(x.lo.length:Int)∧x.re.length≤4096∧x.ar.length≤4096∧x.co.length≤65536 by omega)
       have bc:(x.co.length:Int)≤65536:=by omega
       clear m1 m2 m3 m4 m5 m6
       go_wp2
       clear hW5
       go_loopw [6] (fun a wr=>SoR W5 sndI x.co x.co.length a wr) (fun a _=>x.co.length - (intOf a).toNat)
       case atStart=>exact ⟨0,rfl,Nat.zero_le _,by simp,Below.refl _ _⟩
       case round =>
        obtain ⟨k,rfl,hk,hall,hb⟩:=hrel
        have HB6:=hide hb
        have HAL6:=hide hall
        obtain ⟨o1,o2,o3,o4⟩:=KF.out _ hb
        have HO3:=hide o3
        have HO4:=hide o4
        have p0:=cell_of (o:=4) o1 rfl
        clear s0 s1 s2 s3 s4 t0 t1 t2 t3 t4
        by_cases hkl:k<x.co.length
        · obtain ⟨y,hy⟩ : ∃ y,x.co[k]?=some y:=⟨x.co[k],by simp [hkl]⟩
          obtain ⟨gg,oo,es,hf4,_,hes,rfl,_⟩:=(ins_keep (Nat.le_refl _) o2 HC5.out).get hy
          subst hf4
          have i0:=hes 0 (.int .i64 y.o) rfl
          rw [Nat.add_zero] at i0
          have l2:decide (k<x.co.length)=true:=by simpa using hkl
          have HIN:=hide (show sndI y=true→_ from all_next hy hall)
          have HIF:=hide (show ¬ sndI y=true→sndP p=false from fun hs=>HF.out (by rw [HSF.out];rintro ⟨_,h⟩;exact hs (List.all_eq_true.mp h y (List.mem_of_getElem? hy))))
          have hsi:sndI y=(decide (1≤y.o) && decide (y.o≤29)):=rfl
          have HSI2:=hide hsi
          clear hes hy o1 o2 o3 o4 hb hall hsi
          generalize y.o=yo at *
          by_cases w1:yo<1
          · have z1:decide (yo<1)=true:=by simpa using w1
            have HX:=hide (HIF.out (by rw [HSI2.out];simp;omega))
            clear w1
            go_wp2
            go_ret
            rw [HX.out]
            exact ⟨rfl,HO4.out⟩
          have z1:decide (yo<1)=false:=by simpa using w1
          by_cases w2:29<yo
          · have z2:decide (29<yo)=true:=by simpa using w2
            have HX:=hide (HIF.out (by rw [HSI2.out];simp;omega))
            clear w1 w2
            go_wp2
            go_ret
            rw [HX.out]
            exact ⟨rfl,HO4.out⟩
          have z2:decide (29<yo)=false:=by simpa using w2
          have HNX2:=hide (HIN.out (by rw [HSI2.out];simp;omega))
          clear w1 w2
          go_wp2
          go_roundw
          case rel=>exact ⟨k+1,by go_num,hkl,HNX2.out,HB6.out⟩
          case measure=>rw [intOf_int];simp [intOf];omega
        · obtain rfl:k=x.co.length:=by omega
          have l2:decide (x.co.length<x.co.length)=false:=by simp
          have HNXX:=hide (HNX.out (HSF.out.mpr ⟨HSM.out,by rw [List.take_length] at hall;exact hall⟩))
          clear o1 o2 o3 o4 hb hall
          go_wp2
          go_roundw
          case rel=>exact ⟨j+1,by go_num,hlt,HNXX.out,HO3.out⟩
          case measure=>rw [intOf_int];simp [intOf];omega
     · obtain rfl:j=N2:=by omega
       have l1:decide (j<j)=false:=by simp
       have HA2:=hide (show p.fu.all sndF=true by rw [List.take_of_length_le (by rw [HN2.out];exact Nat.le_refl _)] at hall;exact hall)
       clear hb R k1 hbw hall
       go_wp2
       go_loopw [7] (fun a wr=>SoR W1 sndL p.ta N3 a wr) (fun a _=>N3 - (intOf a).toNat)
       case atStart=>exact ⟨0,rfl,Nat.zero_le _,by simp,HBB.out⟩
       case round =>
        clear HBB HBW HAL
        obtain ⟨j,rfl,hj,hall,hb⟩:=hrel
        have HBB:=hide hb
        have HAL:=hide hall
        obtain ⟨R,k1,hbw⟩:=KP.out wr hb
        have HBW:=hide hbw
        have q0:wr.cell? ⟨w.heap.size,2,none⟩=some (.slice a3 N3 n3):=cell_of k1 rfl
        by_cases hlt:j<N3
        · obtain ⟨x,hx⟩ : ∃ x,p.ta[j]?=some x:=⟨p.ta[j]'(by rw [HN3.out];exact hlt),by simp⟩
          obtain ⟨g,o,cs,rfl,hgl,hcs,y1,rfl,f1,g1,hy1,_⟩:=R.ta.get hx
          subst hy1
          have t1:wr.cell? ⟨g,o+j,none⟩=some (.slice f1 x.length g1):=by have:=hcs 0 _ rfl;simpa using this
          have l1:decide (j<N3)=true:=by simpa using hlt
          have HX:=hide hx
          by_cases hs:sndL x=true
          · have hs2:=hs
            simp only [sndL,decide_eq_true_eq] at hs2
            have dd:decide ((4096:Int)<(x.length:Int))=false:=by simp;omega
            have HNX:=hide (all_next hx hall hs)
            clear hcs hx hb R k1 hbw hgl hs hs2 hall
            go_wp2
            go_roundw
            case rel=>exact ⟨j+1,by go_num,hlt,HNX.out,HBB.out⟩
            case measure=>rw [intOf_int];simp [intOf];omega
          · have hs2:=hs
            simp only [sndL,decide_eq_true_eq] at hs2
            have dd:decide ((4096:Int)<(x.length:Int))=true:=by simp;omega
            have HF:=hide (false_of HSI.out (by rintro ⟨_,h1,h2,h3,h4⟩;have h:=List.all_eq_true.mp h3 x (List.mem_of_getElem? hx);exact hs h))
            clear hcs hx hb R k1 hbw hgl hs hs2 hall
            go_wp2
            go_ret
            rw [HF.out]
            exact ⟨rfl,HBW.out⟩
        · obtain rfl:j=N3:=by omega
          have l1:decide (j<j)=false:=by simp
          have HA3:=hide (show p.ta.all sndL=true by rw [List.take_of_length_le (by rw [HN3.out];exact Nat.le_refl _)] at hall;exact hall)
          clear hb R k1 hbw hall
          go_wp2
          go_loopw [8] (fun a wr=>SoR W1 sndS p.st N4 a wr) (fun a _=>N4 - (intOf a).toNat)
          case atStart=>exact ⟨0,rfl,Nat.zero_le _,by simp,HBB.out⟩
          case round =>
           clear HBB HBW HAL
           obtain ⟨j,rfl,hj,hall,hb⟩:=hrel
           have HBB:=hide hb
           have HAL:=hide hall
           obtain ⟨R,k1,hbw⟩:=KP.out wr hb
           have HBW:=hide hbw
           have q0:wr.cell? ⟨w.heap.size,3,none⟩=some (.slice a4 N4 n4):=cell_of k1 rfl
           by_cases hlt:j<N4
           · obtain ⟨x,hx⟩ : ∃ x,p.st[j]?=some x:=⟨p.st[j]'(by rw [HN4.out];exact hlt),by simp⟩
             obtain ⟨g,o,cs,rfl,hgl,hcs,rfl⟩:=R.st.get hx
             have t1:wr.cell? ⟨g,o+j,none⟩=some (.string ⟨x.toArray⟩):=by have:=hcs 0 _ rfl;simpa using this
             have hsz:(⟨x.toArray⟩ : ByteArray).size=x.length:=by simp [ByteArray.size]
             have l1:decide (j<N4)=true:=by simpa using hlt
             have HX:=hide hx
             by_cases hs:sndS x=true
             · have hs2:=hs
               simp only [sndS,decide_eq_true_eq] at hs2
               have dd:decide ((1024:Int)<(x.length:Int))=false:=by simp;omega
               have HNX:=hide (all_next hx hall hs)
               clear hcs hx hb R k1 hbw hgl hs hs2 hall
               go_wp2
               go_roundw
               case rel=>exact ⟨j+1,by go_num,hlt,HNX.out,HBB.out⟩
               case measure=>rw [intOf_int];simp [intOf];omega
             · have hs2:=hs
               simp only [sndS,decide_eq_true_eq] at hs2
               have dd:decide ((1024:Int)<(x.length:Int))=true:=by simp;omega
               have HF:=hide (false_of HSI.out (by rintro ⟨_,h1,h2,h3,h4⟩;have h:=List.all_eq_true.mp h4 x (List.mem_of_getElem? hx);exact hs h))
               clear hcs hx hb R k1 hbw hgl hs hs2 hall
               go_wp2
               go_ret
               rw [HF.out]
               exact ⟨rfl,HBW.out⟩
           · obtain rfl:j=N4:=by omega
             have l1:decide (j<j)=false:=by simp
             have HA4:=hide (show p.st.all sndS=true by rw [List.take_of_length_le (by rw [HN4.out];exact Nat.le_refl _)] at hall;exact hall)
             clear hb R k1 hbw hall
             go_wp2
             go_ret
             rw [HSI.out.mpr ⟨HG.out,HA1.out,HA2.out,HA3.out,HA4.out⟩]
             exact ⟨rfl,HBW.out⟩
end
end Go.Proofs.YtkdojpnihinpbaaGreatDoor

namespace Go.Proofs.YtkdojpnihinpbaaGreatDoor
open Go.RowKit
/-- The loop over functions. -/
def FnR (p:Pg) (W:World) (a:Value) (wr:World):Prop:=∃ j:Nat,a=.int .i64 j∧j≤p.fu.length∧funcsP p 0 p.fu=funcsP p j (p.fu.drop j)∧Below W.heap.size W wr
section
variable {B:Nat} {w:World} {p:Pg}
set_option maxRecDepth 100000 in
set_option maxHeartbeats 2000000 in
theorem rcheck_any {v1 v2 v3 v4:Value} (P:PgAt B w v1 v2 v3 v4 p) (hB:B≤w.heap.size):Calls Tryz.prog 13 #[.agg #[v1,v2,v3,v4]] w (CkO p w):=by
 obtain ⟨a1,d1,hv1⟩:=sl_form P.ty
 obtain ⟨a2,d2,hv2⟩:=sl_form P.fu
 obtain ⟨a3,d3,hv3⟩:=sl_form P.ta
 obtain ⟨a4,d4,hv4⟩:=sl_form P.st
 subst hv1 hv2 hv3 hv4
 obtain ⟨W1,hW1⟩ : ∃ W1,w.alloc (.cells #[.slice a1 p.ty.length d1,.slice a2 p.fu.length d2,.slice a3 p.ta.length d3,.slice a4 p.st.length d4] 27)=W1:=⟨_,rfl⟩
 have b1:Below w.heap.size w W1:=by rw [← hW1];exact (Below.refl _ _).alloc (Nat.le_refl _) _
 have e1:W1.heap[w.heap.size]?=some (.cells #[.slice a1 p.ty.length d1,.slice a2 p.fu.length d2,.slice a3 p.ta.length d3,.slice a4 p.st.length d4] 27 (0,0)):=by rw [← hW1];exact heap_new _ _ rfl
 have HBX:=hide (show ∀ W:World,Below W1.heap.size W1 W→(W.cell? ⟨w.heap.size,0,none⟩=some (.slice a1 p.ty.length d1)∧W.cell? ⟨w.heap.size,1,none⟩=some (.slice a2 p.fu.length d2)∧W.cell? ⟨w.heap.size,2,none⟩=some (.slice a3 p.ta.length d3)∧W.cell? ⟨w.heap.size,3,none⟩=some (.slice a4 p.st.length d4))∧w.heap.size<W.heap.size from fun W h=>by
  have h1:=(h.block _ (lt_of_block e1)).trans e1
  exact ⟨⟨cell_of h1 rfl,cell_of h1 rfl,cell_of h1 rfl,cell_of h1 rfl⟩,lt_of_block h1⟩)
 have HB1:=hide (show ∀ W:World,Below W1.heap.size W1 W→Below w.heap.size w W from fun W h=>b1.trans (h.mono b1.size))
 have HKP:=hide (show ∀ W:World,Below W1.heap.size W1 W→PgAt B W (.slice a1 p.ty.length d1) (.slice a2 p.fu.length d2) (.slice a3 p.ta.length d3) (.slice a4 p.st.length d4) p∧B≤W.heap.size from fun W h=>⟨P.keep (Nat.le_refl _) fun i hi=>((HB1.out W h).block i (Nat.lt_of_lt_of_le hi hB)),Nat.le_trans hB (HB1.out W h).size⟩)
 obtain ⟨⟨k0,k1,k2,k3⟩,k4⟩:=HBX.out W1 (Below.refl _ _)
 have HSO:=hide (gsound_any (HKP.out W1 (Below.refl _ _)).1 (HKP.out W1 (Below.refl _ _)).2)
 clear P hB b1 e1
 obtain ⟨sb,hsb⟩ : ∃ b,sndP p=b:=⟨_,rfl⟩
 rw [hsb] at HSO
 have HSB:=hide hsb
 clear hsb
 go_enter Tryz.func13,Tryz.ntmps13
 go_wp2_with fail
 refine HSO.out.mono ?_
 rintro e w2 ⟨rfl,hb2⟩
 have HB2:=hide hb2
 clear hb2 HSO k0 k1 k2 k3 k4 hW1
 cases sb with
 | false =>
  have HF:=hide (show checkP p=(0,0,2) from by unfold checkP;rw [if_pos HSB.out])
  go_wp2_with fail
  go_ret3
  exact ⟨by rw [HF.out];first | done | rfl,HB1.out _ HB2.out⟩
 | true =>
  obtain ⟨⟨k0,k1,k2,k3⟩,k4⟩:=HBX.out w2 HB2.out
  obtain ⟨⟨l1,l2,l3,l4⟩,t1,t2,t3,t4⟩:=(sndP_iff p).mp HSB.out
  have HHD:=hide (rheads_any (HKP.out w2 HB2.out).1 (HKP.out w2 HB2.out).2 (fun f hf=>by
   obtain ⟨⟨h1,h2,h3,h4,h5,h6⟩,_⟩:=(sndF_iff f).mp (List.all_eq_true.mp t2 f hf)
   exact ⟨h2,h3,h1,h4,h5⟩) (fun t ht=>by have:=List.all_eq_true.mp t3 t ht;simpa [sndL] using this) l1 l2 l3)
  have HN2:=hide l2
  clear l1 l2 l3 l4 t1 t2 t3 t4
  obtain ⟨hp,hhp⟩ : ∃ h,headsP p=h:=⟨_,rfl⟩
  unfold RhO at HHD
  rw [hhp] at HHD
  have HHP:=hide hhp
  clear hhp
  cases hp with
  | some i =>
   have HF:=hide (show checkP p=((i:Int),0,12) from by unfold checkP;rw [if_neg (by rw [HSB.out];simp),HHP.out])
   go_wp2_with fail
   refine HHD.out.mono ?_
   rintro e w3 ⟨rfl,hb3⟩
   have HB3:=hide (bel_tr HB2.out hb3)
   clear hb3 HHD k0 k1 k2 k3 k4
   go_wp2_with fail
   go_ret3
   exact ⟨by rw [HF.out];first | done | rfl,HB1.out _ HB3.out⟩
  | none =>
   have HF:=hide (show checkP p=funcsP p 0 p.fu from by unfold checkP;rw [if_neg (by rw [HSB.out];simp),HHP.out])
   have HOK:=hide (hok_of HSB.out HHP.out)
   go_wp2_with fail
   refine HHD.out.mono ?_
   rintro e w3 ⟨rfl,hb3⟩
   have HB3:=hide (bel_tr HB2.out hb3)
   clear hb3 HHD k0 k1 k2 k3 k4
   obtain ⟨nf,hnf⟩ : ∃ n,p.fu.length=n:=⟨_,rfl⟩
   rw [hnf] at HBX HKP
   have HNF:=hide hnf
   have hn4:nf≤4096:=by rw [← hnf];exact HN2.out
   clear hnf
   go_wp2
   go_loopw [7] (fun a wr=>FnR p W1 a wr) (fun a _=>nf - (intOf a).toNat)
   case atStart=>exact ⟨0,rfl,Nat.zero_le _,rfl,HB3.out⟩
   case round =>
    obtain ⟨j,rfl,hj,hfn,hb⟩:=hrel
    have HFN:=hide hfn
    have HBR:=hide hb
    rw [HNF.out] at hj
    clear hfn hb
    obtain ⟨⟨k0,k1,k2,k3⟩,k4⟩:=HBX.out wr HBR.out
    by_cases hlt:j<nf
    · obtain ⟨f,hf⟩ : ∃ f,p.fu[j]?=some f:=⟨p.fu[j]'(by rw [HNF.out];exact hlt),by simp⟩
      have HLK:=hide (rlook_any (by have h:=(HKP.out wr HBR.out).1;rw [← HNF.out] at h;exact h) (HKP.out wr HBR.out).2 HOK.out hf)
      have HDR:=hide (show p.fu.drop j=f :: p.fu.drop (j+1) from by rw [List.drop_eq_getElem_cons (by rw [HNF.out];exact hlt)];congr 1;exact (List.getElem?_eq_some_iff.mp hf).2)
      rw [HNF.out] at HLK
      have d1:decide (j<nf)=true:=by simpa using hlt
      have dj:(j:Int)≤4096:=by omega
      clear hf
      go_wp2_with fail
      refine HLK.out.mono ?_
      rintro e w4 ⟨hb4,(⟨x,c,cb,sb,L,m,hfo,rfl⟩ | ⟨F,cb,sb,hfo,rfl,_⟩)⟩
      · have HB4:=hide (bel_tr HBR.out hb4)
        have hc0:(c != 0)=true:=by simpa using run_err hfo
        have HE:=hide (show checkP p=((j:Int),(x:Int),c) from by
         rw [HF.out,HFN.out,HDR.out]
         unfold funcsP
         rw [hfo])
        have HAL:=hide (show ∀ o,Below w.heap.size w (w4.alloc o) from fun o=>(HB1.out w4 (bel_tr HBR.out hb4)).alloc (HB1.out w4 (bel_tr HBR.out hb4)).size o)
        clear hb4 hfo HLK k0 k1 k2 k3 k4
        go_wp2_with fail
        go_ret3
        exact ⟨by rw [HE.out];first | done | rfl,HAL.out _⟩
      · have HB4:=hide (bel_tr HBR.out hb4)
        have HN:=hide (show funcsP p 0 p.fu=funcsP p (j+1) (p.fu.drop (j+1)) from by
         rw [HFN.out,HDR.out]
         conv=>lhs;unfold funcsP
         rw [hfo])
        have HAL:=hide (show ∀ o,Below W1.heap.size W1 (w4.alloc o) from fun o=>(bel_tr HBR.out hb4).alloc (bel_tr HBR.out hb4).size o)
        clear hb4 hfo HLK k0 k1 k2 k3 k4
        go_wp2
        go_roundw
        case rel=>exact ⟨j+1,by first | exact num_next hlt (by omega) | go_num,by rw [HNF.out];exact hlt,HN.out,HAL.out _⟩
        case measure=>first | exact meas_int hlt (by omega) | (rw [intOf_int,intOf_int];omega)
    · obtain rfl:nf=j:=by omega
      have d1:decide (nf<nf)=false:=by simp
      have HE:=hide (show checkP p=(0,0,0) from by rw [HF.out,HFN.out,← HNF.out,List.drop_length];rfl)
      go_wp2
      go_ret3
      exact ⟨by rw [HE.out];first | done | rfl,HB1.out _ HBR.out⟩
end
end Go.Proofs.YtkdojpnihinpbaaGreatDoor
