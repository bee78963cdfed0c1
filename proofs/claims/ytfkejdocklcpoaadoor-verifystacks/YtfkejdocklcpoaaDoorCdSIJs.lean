/- each: I. -/
import Derived.Test.YtfkejdocklcpoaaDoorCdS0Js
namespace Go.Proofs.YtfkejdocklcpoaaDoor
open Go.RowKit
def EaRI (w:World) (l:List (In3)) (a:Value) (wr:World):Prop:=∃ j:Nat,a=.int .i64 j∧j≤l.length∧(l.take j).all sndI=true∧Below w.heap.size w wr
section
variable {w:World} {B:Nat}
set_option maxHeartbeats 1000000 in
theorem eachI_any {v:Value} {l:List (In3)} (R:SlAt 3 InsP B w v l) (hB:B≤w.heap.size) :
    Calls Tryd.prog 46 #[v,.int .i64 65536,.func (.func 47) #[] #[]] w fun e w'=>e=.returned (.bool (eachB 65536 sndI l))∧Below w.heap.size w w':=by
  obtain ⟨ao,cap,rfl,hlen,hel⟩:=R
  unfold eachB
  by_cases hm:l.length≤65536
  · rw [decide_eq_true hm,Bool.true_and]
    have HEL:=hide hel
    have b1:(l.length:Int)≤65536:=by omega
    have d0:decide (65536<(l.length:Int))=false:=by simp;omega
    have HB:=hide hB
    clear hel hlen hm hB
    go_enter Tryd.func46,Tryd.ntmps46
    go_wp2
    go_loopw [15] (fun a wr=>EaRI w l a wr) (fun a _=>l.length - (intOf a).toNat)
    case atStart=>exact ⟨0,rfl,Nat.zero_le _,by simp,Below.refl _ _⟩
    case round =>
     obtain ⟨j,rfl,hj,hall,hb⟩:=hrel
     have HALL:=hide hall
     have HBW:=hide hb
     clear hall hb
     by_cases hlt:j<l.length
     · obtain ⟨x,hx⟩ : ∃ x,l[j]?=some x:=⟨l[j],by simp [hlt]⟩
       obtain ⟨g,o,cs,hao,hgB,hcs,hP⟩:=HEL.out j x hx
       subst hao
       have hk:∀ r u,cs[r]?=some u→wr.cell? ⟨g,o+j*3+r,none⟩=some u:=fun r u hu=>by
        rw [World.cell?_of_block (a:=⟨g,o+j*3+r,none⟩) (HBW.out.block g (Nat.lt_of_lt_of_le hgB HB.out))];exact hcs r u hu
       have hgw:g<wr.heap.size:=Nat.lt_of_lt_of_le hgB (Nat.le_trans HB.out HBW.out.size)
       obtain ⟨rfl,_⟩:=hP
       have c10:wr.cell? ⟨g,o+j*3,none⟩=some (.int .i64 x.o):=by have:=hk 0 _ rfl;simpa using this
       have c11:wr.cell? ⟨g,o+j*3+1,none⟩=some (.int .i64 x.a):=by have:=hk 1 _ rfl;simpa using this
       have c12:wr.cell? ⟨g,o+j*3+2,none⟩=some (.int .i64 x.b):=by have:=hk 2 _ rfl;simpa using this
       have d1:decide (j<l.length)=true:=by simpa using hlt
       have d2:decide ((j:Int)<(l.length:Int))=true:=by simp;omega
       have bj:(j:Int)<(l.length:Int):=by omega
       have HX:=hide hx
       clear hcs hk hx hgB
       generalize hn:l.length=n at *
       have HNl:=hide hn
       clear hn
       obtain ⟨W3,hW3⟩ : ∃ W3,wr.alloc (.cells #[.int .i64 x.o,.int .i64 x.a,.int .i64 x.b] 50)=W3:=⟨_,rfl⟩
       have HW3:=hide (show Below w.heap.size w W3 from hW3 ▸ HBW.out.alloc HBW.out.size _)
       have wc0:W3.cell? ⟨wr.heap.size,0,none⟩=some (.int .i64 x.o):=hW3 ▸ cell_of (heap_new _ _ rfl) rfl
       have wc1:W3.cell? ⟨wr.heap.size,1,none⟩=some (.int .i64 x.a):=hW3 ▸ cell_of (heap_new _ _ rfl) rfl
       have wc2:W3.cell? ⟨wr.heap.size,2,none⟩=some (.int .i64 x.b):=hW3 ▸ cell_of (heap_new _ _ rfl) rfl
       have HIT:=hide (sndI_any x W3)
       generalize hs:sndI x=d at *
       have HSx:=hide hs
       clear hs
       go_wp2_with fail
       refine HIT.out.mono ?_
       rintro e w3 ⟨rfl,hb3⟩
       have HB3:=hide (HW3.out.trans (hb3.mono HW3.out.size))
       clear hb3 HIT hW3
       cases d with
       | true =>
        go_wp2
        go_roundw
        case rel=>exact ⟨j+1,by go_num,by rw [HNl.out];exact hlt,all_next HX.out HALL.out HSx.out,HB3.out⟩
        case measure=>rw [intOf_int];simp [intOf];omega
       | false =>
        go_wp2
        go_ret
        refine ⟨?_,HB3.out⟩
        rw [all_bad HX.out HSx.out]
        rfl
     · obtain rfl:j=l.length:=by omega
       have d1:decide (l.length<l.length)=false:=by simp
       have d2:decide ((l.length:Int)<(l.length:Int))=false:=by simp
       have HA2:=hide (show l.all sndI=true by have:=HALL.out;rwa [List.take_length] at this)
       generalize hn:l.length=n at *
       clear hn
       go_wp2
       go_ret
       refine ⟨?_,HBW.out⟩
       rw [HA2.out]
       rfl
  · rw [decide_eq_false hm,Bool.false_and]
    have d0:decide (65536<(l.length:Int))=true:=by simp;omega
    clear hel hlen hm hB
    generalize l.length=n at *
    go_enter Tryd.func46,Tryd.ntmps46
    go_wp2
    go_ret
    exact ⟨rfl,Below.refl _ _⟩
end
end Go.Proofs.YtfkejdocklcpoaaDoor

namespace Go.Proofs.YtfkejdocklcpoaaDoor
open Go.RowKit
section
variable {w:World} {B:Nat}
set_option maxHeartbeats 1000000 in
theorem sndF_any (f:Fd) {a4:Option Addr} {c4:Nat} (R:SlAt 3 InsP B w (.slice a4 f.co.length c4) f.co) (hB:B≤w.heap.size) (a1 a2 a3:Option Addr) (c1 c2 c3:Nat) :
    Calls Tryd.prog 30 #[.agg #[.int .i64 f.pa,.slice a1 f.lo.length c1,.slice a2 f.re.length c2,.slice a3 f.ar.length c3,.slice a4 f.co.length c4]] w fun e w'=>e=.returned (.bool (sndF f))∧Below w.heap.size w w':=by
  obtain ⟨W1,hW1⟩ : ∃ W1,w.alloc (.cells #[.int .i64 f.pa,.slice a1 f.lo.length c1,.slice a2 f.re.length c2,.slice a3 f.ar.length c3,.slice a4 f.co.length c4] 48)=W1:=⟨_,rfl⟩
  have BB:=hide (show Below w.heap.size w W1 from hW1 ▸ (Below.refl _ _).alloc (Nat.le_refl _) _)
  have HC:=hide (eachI_any (w:=W1) (ins_keep (Nat.le_refl _) (fun j hj=>BB.out.block j (Nat.lt_of_lt_of_le hj hB)) R) (Nat.le_trans hB BB.out.size))
  have k0:W1.cell? ⟨w.heap.size,0,none⟩=some (.int .i64 f.pa):=hW1 ▸ cell_of (heap_new _ _ rfl) rfl
  have k1:W1.cell? ⟨w.heap.size,1,none⟩=some (.slice a1 f.lo.length c1):=hW1 ▸ cell_of (heap_new _ _ rfl) rfl
  have k2:W1.cell? ⟨w.heap.size,2,none⟩=some (.slice a2 f.re.length c2):=hW1 ▸ cell_of (heap_new _ _ rfl) rfl
  have k3:W1.cell? ⟨w.heap.size,3,none⟩=some (.slice a3 f.ar.length c3):=hW1 ▸ cell_of (heap_new _ _ rfl) rfl
  have k4:W1.cell? ⟨w.heap.size,4,none⟩=some (.slice a4 f.co.length c4):=hW1 ▸ cell_of (heap_new _ _ rfl) rfl
  unfold sndF
  have e1:decide ((f.lo.length:Int)≤4096)=decide (f.lo.length≤4096):=by apply decide_eq_decide.mpr;omega
  have e2:decide ((f.re.length:Int)≤4096)=decide (f.re.length≤4096):=by apply decide_eq_decide.mpr;omega
  have e3:decide ((f.ar.length:Int)≤4096)=decide (f.ar.length≤4096):=by apply decide_eq_decide.mpr;omega
  generalize eachB 65536 sndI f.co=d6 at *
  generalize f.lo.length=n1 at *
  generalize f.re.length=n2 at *
  generalize f.ar.length=n3 at *
  generalize f.co.length=n4 at *
  generalize f.pa=pa at *
  generalize decide (n1≤4096)=d1 at *
  generalize decide (n2≤4096)=d4 at *
  generalize decide (n3≤4096)=d5 at *
  generalize hd2:decide (0≤pa)=d2 at *
  generalize hd3:decide (pa≤(n1:Int))=d3 at *
  clear R hB
  cases d1 with
  | false =>
   go_enter Tryd.func30,Tryd.ntmps30
   go_wp2
   go_ret
   exact ⟨by simp,BB.out⟩
  | true =>
   cases d2 with
   | false =>
    go_enter Tryd.func30,Tryd.ntmps30
    go_wp2
    go_ret
    exact ⟨by simp,BB.out⟩
   | true =>
    cases d3 with
    | false =>
     go_enter Tryd.func30,Tryd.ntmps30
     go_wp2
     go_ret
     exact ⟨by simp,BB.out⟩
    | true =>
     cases d4 with
     | false =>
      go_enter Tryd.func30,Tryd.ntmps30
      go_wp2
      go_ret
      exact ⟨by simp,BB.out⟩
     | true =>
      cases d5 with
      | false =>
       go_enter Tryd.func30,Tryd.ntmps30
       go_wp2
       go_ret
       exact ⟨by simp,BB.out⟩
      | true =>
       go_enter Tryd.func30,Tryd.ntmps30
       go_wp2_with fail
       refine HC.out.mono ?_
       rintro e w2 ⟨rfl,hb⟩
       have HB2:=hide (BB.out.trans (hb.mono BB.out.size))
       clear hb HC hW1
       go_wp2
       go_ret
       exact ⟨by simp,HB2.out⟩
end
end Go.Proofs.YtfkejdocklcpoaaDoor

namespace Go.Proofs.YtfkejdocklcpoaaDoor
open Go.RowKit
def EaRF (w:World) (l:List (Fd)) (a:Value) (wr:World):Prop:=∃ j:Nat,a=.int .i64 j∧j≤l.length∧(l.take j).all sndF=true∧Below w.heap.size w wr
section
variable {w:World} {B:Nat}
set_option maxHeartbeats 1000000 in
theorem eachF_any {v:Value} {l:List (Fd)} (R:SlAt 5 (FdP B) B w v l) (hB:B≤w.heap.size) :
    Calls Tryd.prog 29 #[v,.int .i64 4096,.func (.func 30) #[] #[]] w fun e w'=>e=.returned (.bool (eachB 4096 sndF l))∧Below w.heap.size w w':=by
  obtain ⟨ao,cap,rfl,hlen,hel⟩:=R
  unfold eachB
  by_cases hm:l.length≤4096
  · rw [decide_eq_true hm,Bool.true_and]
    have HEL:=hide hel
    have b1:(l.length:Int)≤4096:=by omega
    have d0:decide (4096<(l.length:Int))=false:=by simp;omega
    have HB:=hide hB
    clear hel hlen hm hB
    go_enter Tryd.func29,Tryd.ntmps29
    go_wp2
    go_loopw [15] (fun a wr=>EaRF w l a wr) (fun a _=>l.length - (intOf a).toNat)
    case atStart=>exact ⟨0,rfl,Nat.zero_le _,by simp,Below.refl _ _⟩
    case round =>
     obtain ⟨j,rfl,hj,hall,hb⟩:=hrel
     have HALL:=hide hall
     have HBW:=hide hb
     clear hall hb
     by_cases hlt:j<l.length
     · obtain ⟨x,hx⟩ : ∃ x,l[j]?=some x:=⟨l[j],by simp [hlt]⟩
       obtain ⟨g,o,cs,hao,hgB,hcs,hP⟩:=HEL.out j x hx
       subst hao
       have hk:∀ r u,cs[r]?=some u→wr.cell? ⟨g,o+j*5+r,none⟩=some u:=fun r u hu=>by
        rw [World.cell?_of_block (a:=⟨g,o+j*5+r,none⟩) (HBW.out.block g (Nat.lt_of_lt_of_le hgB HB.out))];exact hcs r u hu
       have hgw:g<wr.heap.size:=Nat.lt_of_lt_of_le hgB (Nat.le_trans HB.out HBW.out.size)
       obtain ⟨v1,v2,v3,v4,rfl,_,r1,r2,r3,r4⟩:=hP
       obtain ⟨a1,c1,hv1,_⟩:=id r1
       obtain ⟨a2,c2,hv2,_⟩:=id r2
       obtain ⟨a3,c3,hv3,_⟩:=id r3
       obtain ⟨a4,c4,hv4,_⟩:=id r4
       subst hv1 hv2 hv3 hv4
       have c10:wr.cell? ⟨g,o+j*5,none⟩=some (.int .i64 x.pa):=by have:=hk 0 _ rfl;simpa using this
       have c11:wr.cell? ⟨g,o+j*5+1,none⟩=some (.slice a1 x.lo.length c1):=by have:=hk 1 _ rfl;simpa using this
       have c12:wr.cell? ⟨g,o+j*5+2,none⟩=some (.slice a2 x.re.length c2):=by have:=hk 2 _ rfl;simpa using this
       have c13:wr.cell? ⟨g,o+j*5+3,none⟩=some (.slice a3 x.ar.length c3):=by have:=hk 3 _ rfl;simpa using this
       have c14:wr.cell? ⟨g,o+j*5+4,none⟩=some (.slice a4 x.co.length c4):=by have:=hk 4 _ rfl;simpa using this
       have d1:decide (j<l.length)=true:=by simpa using hlt
       have d2:decide ((j:Int)<(l.length:Int))=true:=by simp;omega
       have bj:(j:Int)<(l.length:Int):=by omega
       have HX:=hide hx
       clear hcs hk hx hgB
       generalize hn:l.length=n at *
       have HNl:=hide hn
       clear hn
       obtain ⟨W3,hW3⟩ : ∃ W3,wr.alloc (.cells #[.int .i64 x.pa,.slice a1 x.lo.length c1,.slice a2 x.re.length c2,.slice a3 x.ar.length c3,.slice a4 x.co.length c4] 48)=W3:=⟨_,rfl⟩
       have HKP:=hide (show ∀ i,i<B→W3.heap[i]?=w.heap[i]? from fun i hi=>(hW3 ▸ HBW.out.alloc HBW.out.size _:Below w.heap.size w W3).block i (Nat.lt_of_lt_of_le hi HB.out))
       have HW3:=hide (show Below w.heap.size w W3 from hW3 ▸ HBW.out.alloc HBW.out.size _)
       have wc0:W3.cell? ⟨wr.heap.size,0,none⟩=some (.int .i64 x.pa):=hW3 ▸ cell_of (heap_new _ _ rfl) rfl
       have wc1:W3.cell? ⟨wr.heap.size,1,none⟩=some (.slice a1 x.lo.length c1):=hW3 ▸ cell_of (heap_new _ _ rfl) rfl
       have wc2:W3.cell? ⟨wr.heap.size,2,none⟩=some (.slice a2 x.re.length c2):=hW3 ▸ cell_of (heap_new _ _ rfl) rfl
       have wc3:W3.cell? ⟨wr.heap.size,3,none⟩=some (.slice a3 x.ar.length c3):=hW3 ▸ cell_of (heap_new _ _ rfl) rfl
       have wc4:W3.cell? ⟨wr.heap.size,4,none⟩=some (.slice a4 x.co.length c4):=hW3 ▸ cell_of (heap_new _ _ rfl) rfl
       have HIT:=hide (sndF_any x (ins_keep (Nat.le_refl _) HKP.out r4) (Nat.le_trans HB.out HW3.out.size) a1 a2 a3 c1 c2 c3)
       generalize hs:sndF x=d at *
       have HSx:=hide hs
       clear hs
       go_wp2_with fail
       refine HIT.out.mono ?_
       rintro e w3 ⟨rfl,hb3⟩
       have HB3:=hide (HW3.out.trans (hb3.mono HW3.out.size))
       clear hb3 HIT hW3
       cases d with
       | true =>
        go_wp2
        go_roundw
        case rel=>exact ⟨j+1,by go_num,by rw [HNl.out];exact hlt,all_next HX.out HALL.out HSx.out,HB3.out⟩
        case measure=>rw [intOf_int];simp [intOf];omega
       | false =>
        go_wp2
        go_ret
        refine ⟨?_,HB3.out⟩
        rw [all_bad HX.out HSx.out]
        rfl
     · obtain rfl:j=l.length:=by omega
       have d1:decide (l.length<l.length)=false:=by simp
       have d2:decide ((l.length:Int)<(l.length:Int))=false:=by simp
       have HA2:=hide (show l.all sndF=true by have:=HALL.out;rwa [List.take_length] at this)
       generalize hn:l.length=n at *
       clear hn
       go_wp2
       go_ret
       refine ⟨?_,HBW.out⟩
       rw [HA2.out]
       rfl
  · rw [decide_eq_false hm,Bool.false_and]
    have d0:decide (4096<(l.length:Int))=true:=by simp;omega
    clear hel hlen hm hB
    generalize l.length=n at *
    go_enter Tryd.func29,Tryd.ntmps29
    go_wp2
    go_ret
    exact ⟨rfl,Below.refl _ _⟩
end
end Go.Proofs.YtfkejdocklcpoaaDoor
