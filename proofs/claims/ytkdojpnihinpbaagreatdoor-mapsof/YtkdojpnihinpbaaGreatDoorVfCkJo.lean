/- The first fault of a program: caught. -/
import Derived.Test.YtkdojpnihinpbaaGreatDoorVfFoJo
import Derived.Recover
import Derived.Test.YtkdojpnihinpbaaGreatDoorCdS0Jo
namespace Go.Proofs.YtkdojpnihinpbaaGreatDoor
set_option maxRecDepth 100000
set_option maxHeartbeats 1000000
open Go.RowKit
theorem catch_pan (b:Nat) (f a e x y z:Int) (w:World) (hb:w.heap[b]?=some (.cells #[.int .i64 x,.int .i64 y,.int .i64 z] 102 (0,0))) :
    CallsD Tryz.prog 67 #[.pointer (some ⟨b,0,none⟩)] (.panicking (fch f a e)) w fun r u' w' =>
     r=.returned (.tuple #[])∧u' = .panicking [{ v:=.iface 102 (.agg #[.int .i64 f,.int .i64 a,.int .i64 e]),recovered:=true }]∧w' = ((w.setCell ⟨b,0,none⟩ (.int .i64 f)).setCell ⟨b,1,none⟩ (.int .i64 a)).setCell ⟨b,2,none⟩ (.int .i64 e):=by
  have c0:w.cell? ⟨b,0,none⟩=some (.int .i64 x):=cell_of hb rfl
  have c1:w.cell? ⟨b,1,none⟩=some (.int .i64 y):=cell_of hb rfl
  have c2:w.cell? ⟨b,2,none⟩=some (.int .i64 z):=cell_of hb rfl
  have f0:w.frozen? ⟨b,0,none⟩=false:=by simp [World.frozen?,hb]
  have f1:w.frozen? ⟨b,1,none⟩=false:=by simp [World.frozen?,hb]
  have f2:w.frozen? ⟨b,2,none⟩=false:=by simp [World.frozen?,hb]
  have hl:=lt_of_block hb
  have hta:(Instr.typeAssert (.iface 102 (.agg #[.int .i64 f,.int .i64 a,.int .i64 e])) 20 102 false).run Tryz.prog w=.ok (.agg #[.int .i64 f,.int .i64 a,.int .i64 e]) w:=by rfl
  refine callsD_of_wpS Tryz.func67 rfl fun c₀ cs hu=>?_
  apply wpS_seq
  apply wpS_region
  simp [wpOpsS,go_sem,recoverD,hu,Tryz.ntmps67,Exit.thenS,fch]
  apply wpS_of_wp
  simp only [Array.replicate_succ,Array.replicate_zero,List.push_toArray,List.append_toArray,List.nil_append,List.cons_append,List.setIfInBounds_toArray,List.set_cons_zero,List.set_cons_succ]
  go_wp2
  simp [bodyPostS,results,Tryz.results67]
theorem catch_no (b:Nat) (w:World):CallsD Tryz.prog 67 #[.pointer (some ⟨b,0,none⟩)] .returning w fun r u' w'=>r=.returned (.tuple #[])∧u' = .returning∧w' = w:=by
 refine callsD_of_wpS Tryz.func67 rfl fun c₀ cs hu=>?_
 apply wpS_seq
 apply wpS_region
 simp [wpOpsS,go_sem,recoverD,hu,Tryz.ntmps67,Exit.thenS]
 apply wpS_of_wp
 simp only [Array.replicate_succ,Array.replicate_zero,List.push_toArray,List.append_toArray,List.nil_append,List.cons_append,List.setIfInBounds_toArray,List.set_cons_zero,List.set_cons_succ]
 go_wp2
 simp [bodyPostS,results,Tryz.results67]
 cases c₀
 simp_all
def ckP (p:Pg):Int × Int × Int:=match headsP p with
  | some i=>((i:Int),0,12)
  | none=>funcsP p 0 p.fu
theorem checkP_ck {p:Pg} (h:sndP p=true):checkP p=ckP p:=by
 unfold checkP
 rw [if_neg (by rw [h];simp)]
 rfl
def FfO (p:Pg) (w:World) (e:Ending) (W:World):Prop:=e=.returned (.agg #[.int .i64 (ckP p).1,.int .i64 (ckP p).2.1,.int .i64 (ckP p).2.2])∧Below w.heap.size w W
def FfR (p:Pg) (w:World) (a:Value) (wr:World):Prop:=∃ j:Nat,a=.int .i64 j∧j≤p.fu.length∧funcsP p 0 p.fu=funcsP p j (p.fu.drop j)∧Below w.heap.size w wr
theorem three_set {b:Nat} {x y z f a e:Int} {w:World} (hb:w.heap[b]?=some (.cells #[.int .i64 x,.int .i64 y,.int .i64 z] 102 (0,0))) {W:World} (hW:((w.setCell ⟨b,0,none⟩ (.int .i64 f)).setCell ⟨b,1,none⟩ (.int .i64 a)).setCell ⟨b,2,none⟩ (.int .i64 e)=W):(W.cell? ⟨b,0,none⟩=some (.int .i64 f)∧W.cell? ⟨b,1,none⟩=some (.int .i64 a)∧W.cell? ⟨b,2,none⟩=some (.int .i64 e))∧∀ {n:Nat} {w0:World},n≤b→Below n w0 w→Below n w0 W:=by
 have h1:=heap_setCell_same w b 0 (.int .i64 f) hb
 have h2:=heap_setCell_same _ b 1 (.int .i64 a) h1
 have h3:=heap_setCell_same _ b 2 (.int .i64 e) h2
 rw [hW] at h3
 refine ⟨⟨cell_of h3 rfl,cell_of h3 rfl,cell_of h3 rfl⟩,fun {n w0} hn hb=>?_⟩
 rw [← hW]
 exact ((hb.setCell (p:=⟨b,0,none⟩) hn _).setCell (p:=⟨b,1,none⟩) hn _).setCell (p:=⟨b,2,none⟩) hn _
section
variable {B:Nat} {w:World} {p:Pg}
theorem first_any {v1 v2 v3 v4:Value} (P:PgAt B w v1 v2 v3 v4 p) (hB:B≤w.heap.size) (hs:sndP p=true) (hT:Tb w) (hb0:0<B):Calls Tryz.prog 48 #[.agg #[v1,v2,v3,v4]] w (FfO p w):=by
 have hmf:∀ (fn:Fn) (first cap:Array Value) (w:World),(Instr.makeFunc fn first cap).run Tryz.prog w=.ok (.func fn first cap) w:=fun _ _ _ _=>rfl
 obtain ⟨a1,d1,hv1⟩:=sl_form P.ty
 obtain ⟨a2,d2,hv2⟩:=sl_form P.fu
 obtain ⟨a3,d3,hv3⟩:=sl_form P.ta
 obtain ⟨a4,d4,hv4⟩:=sl_form P.st
 subst hv1 hv2 hv3 hv4
 obtain ⟨W1,hW1⟩ : ∃ W1,(w.alloc (.cells #[.slice a1 p.ty.length d1,.slice a2 p.fu.length d2,.slice a3 p.ta.length d3,.slice a4 p.st.length d4] 27)).alloc (.cells #[.int .i64 0,.int .i64 0,.int .i64 0] 102)=W1:=⟨_,rfl⟩
 have b1:Below w.heap.size w W1:=by rw [← hW1];exact ((Below.refl _ _).alloc (Nat.le_refl _) _).alloc (by simp) _
 have e1:W1.heap[w.heap.size]?=some (.cells #[.slice a1 p.ty.length d1,.slice a2 p.fu.length d2,.slice a3 p.ta.length d3,.slice a4 p.st.length d4] 27 (0,0)):=by rw [← hW1,Below.heap_alloc _ _ _ (by simp)];exact heap_new _ _ rfl
 have e2:W1.heap[w.heap.size+1]?=some (.cells #[.int .i64 0,.int .i64 0,.int .i64 0] 102 (0,0)):=by rw [← hW1];exact heap_new _ _ (by simp)
 have HBX:=hide (show ∀ W:World,Below W1.heap.size W1 W→(W.cell? ⟨w.heap.size,0,none⟩=some (.slice a1 p.ty.length d1)∧W.cell? ⟨w.heap.size,1,none⟩=some (.slice a2 p.fu.length d2)∧W.cell? ⟨w.heap.size,2,none⟩=some (.slice a3 p.ta.length d3)∧W.cell? ⟨w.heap.size,3,none⟩=some (.slice a4 p.st.length d4))∧W.heap[w.heap.size+1]?=some (.cells #[.int .i64 0,.int .i64 0,.int .i64 0] 102 (0,0)) from fun W h=>by
  have h1:=(h.block _ (lt_of_block e1)).trans e1
  exact ⟨⟨cell_of h1 rfl,cell_of h1 rfl,cell_of h1 rfl,cell_of h1 rfl⟩,(h.block _ (lt_of_block e2)).trans e2⟩)
 have HBW:=hide (show ∀ W:World,Below W1.heap.size W1 W→Below w.heap.size w W from fun W h=>bel_tr b1 h)
 have HPG:=hide (show ∀ W:World,Below W1.heap.size W1 W→PgAt B W (.slice a1 p.ty.length d1) (.slice a2 p.fu.length d2) (.slice a3 p.ta.length d3) (.slice a4 p.st.length d4) p∧B≤W.heap.size∧Tb W from fun W h=>⟨P.keep (Nat.le_refl _) (fun j hj=>(bel_tr b1 h).block j (Nat.lt_of_lt_of_le hj hB)),Nat.le_trans hB (bel_tr b1 h).size,hT.keep ((bel_tr b1 h).block 0 (Nat.lt_of_lt_of_le hb0 hB))⟩)
 have hs2:=hs
 simp only [sndP,Bool.and_eq_true] at hs2
 obtain ⟨s1,s2,s3,_⟩:=hs2
 obtain ⟨⟨k0,k1,k2,k3⟩,kf⟩:=HBX.out W1 (Below.refl _ _)
 have HHD:=hide (heads_any (HPG.out W1 (Below.refl _ _)).1 (HPG.out W1 (Below.refl _ _)).2.1 (fun f hf=>by
  have:=(eachB_le s2).2 f hf
  simp only [sndF,Bool.and_eq_true,decide_eq_true_eq] at this
  exact ⟨this.2.1,this.2.2.1⟩) (eachB_le s1).1 (eachB_le s2).1 (eachB_le s3).1)
 have HEND:=hide (show ∀ (w2 W:World) (f a e:Int),Below W1.heap.size W1 w2→((w2.setCell ⟨w.heap.size+1,0,none⟩ (.int .i64 f)).setCell ⟨w.heap.size+1,1,none⟩ (.int .i64 a)).setCell ⟨w.heap.size+1,2,none⟩ (.int .i64 e)=W→(W.cell? ⟨w.heap.size+1,0,none⟩=some (.int .i64 f)∧W.cell? ⟨w.heap.size+1,1,none⟩=some (.int .i64 a)∧W.cell? ⟨w.heap.size+1,2,none⟩=some (.int .i64 e))∧Below w.heap.size w W from fun w2 W f a e h hW=>by
  obtain ⟨h1,h2⟩:=three_set (HBX.out w2 h).2 hW
  exact ⟨h1,h2 (by omega) (HBW.out w2 h)⟩)
 have HS:=hide hs
 have HBZ:=hide hb0
 have hn2:p.fu.length≤4096:=(eachB_le s2).1
 have hl0:=lt_of_block e1
 have hl1:=lt_of_block e2
 clear P hB hT hb0 s1 s2 s3 b1 e1 e2
 generalize p.ty.length=n1 at *
 generalize p.ta.length=n3 at *
 generalize p.st.length=n4 at *
 generalize hN2:p.fu.length=n2 at *
 have HN2:=hide hN2
 clear hN2
 go_enter_defers Tryz.func48,Tryz.ntmps48
 go_wp2_with fail
 refine HHD.out.mono ?_
 rintro e w2 ⟨hh2,hb2⟩
 cases hhp:headsP p with
 | some i =>
  rw [hhp] at hh2
  have hh3:e=.panicked (fch i 0 12):=hh2
  subst hh3
  have hck:ckP p=((i:Int),0,12):=by unfold ckP;rw [hhp]
  refine leaves_cons (f:=67) (args:=#[.pointer (some ⟨w.heap.size+1,0,none⟩)]) (by simp) (by simp [go_sem]) ?_
  refine (catch_pan (w.heap.size+1) _ _ _ 0 0 0 w2 (HBX.out w2 hb2).2).mono ?_
  rintro e u' w3 ⟨rfl,rfl,hw3⟩
  obtain ⟨⟨c0,c1,c2⟩,hbw⟩:=HEND.out w2 w3 _ _ _ hb2 hw3.symm
  simp [Leaves,settle,results,Tryz.results48,go_sem,c0,c1,c2]
  exact ⟨by rw [hck],hbw⟩
 | none =>
  rw [hhp] at hh2
  obtain ⟨v2,rfl⟩:=hh2
  have HCK:=hide (show ckP p=funcsP p 0 p.fu from by unfold ckP;rw [hhp])
  have HOK:=hide (hok_of HS.out hhp)
  have HB2:=hide hb2
  clear hb2 hhp k0 k1 k2 k3 kf hW1
  obtain ⟨⟨k0,k1,k2,k3⟩,kf⟩:=HBX.out w2 HB2.out
  go_wp2
  go_loopw [10] (fun a wr=>FfR p W1 a wr) (fun a _=>n2 - (intOf a).toNat)
  case atStart=>exact ⟨0,rfl,Nat.zero_le _,rfl,HB2.out⟩
  case round =>
   clear k0 k1 k2 k3 kf
   obtain ⟨j,rfl,hj,hfu,hb⟩:=hrel
   have HFU:=hide hfu
   have HBR:=hide hb
   rw [HN2.out] at hj
   clear hfu hb
   obtain ⟨⟨k0,k1,k2,k3⟩,kf⟩:=HBX.out wr HBR.out
   by_cases hlt:j<n2
   · obtain ⟨f,hf⟩ : ∃ f,p.fu[j]?=some f:=⟨p.fu[j]'(by rw [HN2.out];exact hlt),by simp⟩
     have d1:decide (j<n2)=true:=by simpa using hlt
     have HFO:=hide (follow_any (HPG.out wr HBR.out).1 (HPG.out wr HBR.out).2.1 HOK.out (HPG.out wr HBR.out).2.2 HBZ.out hf)
     have HDR:=hide (show p.fu.drop j=f :: p.fu.drop (j+1) from by rw [List.drop_eq_getElem_cons (by rw [HN2.out];exact hlt)];congr 1;exact (List.getElem?_eq_some_iff.mp hf).2)
     have HFP:=hide (show funcsP p 0 p.fu=match followP p f with
         | .error (x,e)=>((j:Int),(x:Int),e)
         | .ok _=>funcsP p (j+1) (p.fu.drop (j+1)) from by rw [HFU.out,HDR.out];rfl)
     have d2:(j:Int)≤4096:=by omega
     clear hf
     go_wp2_with fail
     refine HFO.out.mono ?_
     rintro e w4 ⟨h4,hb4⟩
     cases hfl:followP p f with
     | error xe =>
      obtain ⟨x,ee⟩:=xe
      rw [hfl] at h4 HFP
      have h5:e=.panicked (fch (j:Int) (x:Int) ee):=h4
      subst h5
      have hck:ckP p=((j:Int),(x:Int),ee):=HCK.out.trans HFP.out
      have hb5:=bel_tr HBR.out hb4
      refine leaves_cons (f:=67) (args:=#[.pointer (some ⟨w.heap.size+1,0,none⟩)]) (by simp) (by simp [go_sem]) ?_
      refine (catch_pan (w.heap.size+1) _ _ _ 0 0 0 w4 (HBX.out w4 hb5).2).mono ?_
      rintro e u' w5 ⟨rfl,rfl,hw5⟩
      obtain ⟨⟨c0,c1,c2⟩,hbw⟩:=HEND.out w4 w5 _ _ _ hb5 hw5.symm
      simp [Leaves,settle,results,Tryz.results48,go_sem,c0,c1,c2]
      exact ⟨by rw [hck],hbw⟩
     | ok F =>
      rw [hfl] at h4 HFP
      obtain ⟨A,ahb,wtb,E,V,at_,rfl,_⟩:=h4
      have HB4:=hide (bel_tr HBR.out hb4)
      clear hb4 hfl
      go_wp2
      go_roundw
      case rel=>exact ⟨j+1,by first | exact num_next hlt (by omega) | go_num,by rw [HN2.out];exact hlt,HFP.out,HB4.out⟩
      case measure=>first | exact meas_int hlt (by omega) | (rw [intOf_int,intOf_int];omega)
   · obtain rfl:n2=j:=by omega
     have d1:decide (n2<n2)=false:=by simp
     have HFP:=hide (show ckP p=(0,0,0) from by rw [HCK.out,HFU.out,← HN2.out,List.drop_length];rfl)
     have q0:wr.cell? ⟨w.heap.size+1,0,none⟩=some (.int .i64 0):=cell_of kf rfl
     have q1:wr.cell? ⟨w.heap.size+1,1,none⟩=some (.int .i64 0):=cell_of kf rfl
     have q2:wr.cell? ⟨w.heap.size+1,2,none⟩=some (.int .i64 0):=cell_of kf rfl
     have z0:wr.frozen? ⟨w.heap.size+1,0,none⟩=false:=by simp [World.frozen?,kf]
     have z1:wr.frozen? ⟨w.heap.size+1,1,none⟩=false:=by simp [World.frozen?,kf]
     have z2:wr.frozen? ⟨w.heap.size+1,2,none⟩=false:=by simp [World.frozen?,kf]
     have hlw:=lt_of_block kf
     have HKF:=hide kf
     clear kf
     go_wp2
     refine leaves_cons (f:=67) (args:=#[.pointer (some ⟨w.heap.size+1,0,none⟩)]) (by simp) (by simp [go_sem]) ?_
     generalize hWE:((wr.setCell ⟨w.heap.size+1,0,none⟩ (.int .i64 0)).setCell ⟨w.heap.size+1,1,none⟩ (.int .i64 0)).setCell ⟨w.heap.size+1,2,none⟩ (.int .i64 0)=WE
     obtain ⟨⟨c0,c1,c2⟩,hbw⟩:=HEND.out wr WE _ _ _ HBR.out hWE
     refine (catch_no (w.heap.size+1) WE).mono ?_
     rintro e u' w5 ⟨rfl,rfl,rfl⟩
     simp [Leaves,settle,results,Tryz.results48,go_sem,c0,c1,c2]
     exact ⟨by rw [HFP.out],hbw⟩
end
end Go.Proofs.YtkdojpnihinpbaaGreatDoor

namespace Go.Proofs.YtkdojpnihinpbaaGreatDoor
open Go.RowKit
def EaRT (w:World) (l:List (List Int)) (a:Value) (wr:World):Prop:=∃ j:Nat,a=.int .i64 j∧j≤l.length∧(l.take j).all sndL=true∧Below w.heap.size w wr
section
variable {w:World} {B:Nat}
set_option maxHeartbeats 1000000 in
theorem eachT_any {v:Value} {l:List (List Int)} (R:SlAt 1 (LstP B) B w v l) (hB:B≤w.heap.size) :
    Calls Tryz.prog 63 #[v,.int .i64 1024,.func (.func 64) #[] #[]] w fun e w'=>e=.returned (.bool (eachB 1024 sndL l))∧Below w.heap.size w w':=by
  obtain ⟨ao,cap,rfl,hlen,hel⟩:=R
  unfold eachB
  by_cases hm:l.length≤1024
  · rw [decide_eq_true hm,Bool.true_and]
    have HEL:=hide hel
    have b1:(l.length:Int)≤1024:=by omega
    have d0:decide (1024<(l.length:Int))=false:=by simp;omega
    have HB:=hide hB
    clear hel hlen hm hB
    go_enter Tryz.func63,Tryz.ntmps63
    go_wp2
    go_loopw [15] (fun a wr=>EaRT w l a wr) (fun a _=>l.length - (intOf a).toNat)
    case atStart=>exact ⟨0,rfl,Nat.zero_le _,by simp,Below.refl _ _⟩
    case round =>
     obtain ⟨j,rfl,hj,hall,hb⟩:=hrel
     have HALL:=hide hall
     have HBW:=hide hb
     clear hall hb
     by_cases hlt:j<l.length
     · obtain ⟨x,hx⟩ : ∃ x,l[j]?=some x:=⟨l[j],by simp [hlt]⟩
       obtain ⟨g,o,cs,hao,hgB,hcs,hP⟩:=HEL.out j x hx
       subst hao
       have hk:∀ r u,cs[r]?=some u→wr.cell? ⟨g,o+j*1+r,none⟩=some u:=fun r u hu=>by
        rw [World.cell?_of_block (a:=⟨g,o+j*1+r,none⟩) (HBW.out.block g (Nat.lt_of_lt_of_le hgB HB.out))];exact hcs r u hu
       have hgw:g<wr.heap.size:=Nat.lt_of_lt_of_le hgB (Nat.le_trans HB.out HBW.out.size)
       obtain ⟨v1,rfl,a1,c1,rfl,_⟩:=hP
       have c10:wr.cell? ⟨g,o+j,none⟩=some (.slice a1 x.length c1):=by have:=hk 0 _ rfl;simpa using this
       have d1:decide (j<l.length)=true:=by simpa using hlt
       have d2:decide ((j:Int)<(l.length:Int))=true:=by simp;omega
       have bj:(j:Int)<(l.length:Int):=by omega
       have HX:=hide hx
       clear hcs hk hx hgB
       generalize hn:l.length=n at *
       have HNl:=hide hn
       clear hn
       have HIT:=hide (sndT_any (l:=x) (a:=a1) (c:=c1) rfl wr)
       generalize hs:sndL x=d at *
       have HSx:=hide hs
       clear hs
       go_wp2_with fail
       refine HIT.out.mono ?_
       rintro e w3 ⟨rfl,hb3⟩
       have HB3:=hide (HBW.out.trans (hb3.mono HBW.out.size))
       clear hb3 HIT
       cases d with
       | true =>
        go_wp2
        go_roundw
        case rel=>exact ⟨j+1,by go_num,by rw [HNl.out];exact hlt,all_next HX.out HALL.out HSx.out,HB3.out⟩
        case measure=>rw [intOf_int];simp [intOf];omega
       | false =>
        go_wp2
        go_ret
        refine ⟨?_,HB3.out⟩
        rw [all_bad HX.out HSx.out]
        rfl
     · obtain rfl:j=l.length:=by omega
       have d1:decide (l.length<l.length)=false:=by simp
       have d2:decide ((l.length:Int)<(l.length:Int))=false:=by simp
       have HA2:=hide (show l.all sndL=true by have:=HALL.out;rwa [List.take_length] at this)
       generalize hn:l.length=n at *
       clear hn
       go_wp2
       go_ret
       refine ⟨?_,HBW.out⟩
       rw [HA2.out]
       rfl
  · rw [decide_eq_false hm,Bool.false_and]
    have d0:decide (1024<(l.length:Int))=true:=by simp;omega
    clear hel hlen hm hB
    generalize l.length=n at *
    go_enter Tryz.func63,Tryz.ntmps63
    go_wp2
    go_ret
    exact ⟨rfl,Below.refl _ _⟩
end
end Go.Proofs.YtkdojpnihinpbaaGreatDoor

namespace Go.Proofs.YtkdojpnihinpbaaGreatDoor
open Go.RowKit
section
variable {w:World} {B:Nat}
set_option maxHeartbeats 1000000 in
theorem sound_any {p:Pg} {v1 v2 v3 v4:Value} (R:PgAt B w v1 v2 v3 v4 p) (hB:B≤w.heap.size) :
    Calls Tryz.prog 47 #[.agg #[v1,v2,v3,v4]] w fun e w'=>e=.returned (.bool (sndP p))∧Below w.heap.size w w':=by
  obtain ⟨W1,hW1⟩ : ∃ W1,w.alloc (.cells #[v1,v2,v3,v4] 27)=W1:=⟨_,rfl⟩
  have BB:=hide (show Below w.heap.size w W1 from hW1 ▸ (Below.refl _ _).alloc (Nat.le_refl _) _)
  have hb1:W1.heap[w.heap.size]?=some (.cells #[v1,v2,v3,v4] 27 (0,0)):=hW1 ▸ heap_new _ _ rfl
  have hz1:W1.heap.size=w.heap.size+1:=by rw [← hW1];simp
  have KP:∀ W,Below W1.heap.size W1 W→PgAt B W v1 v2 v3 v4 p∧B≤W.heap.size∧W.heap[w.heap.size]?=some (.cells #[v1,v2,v3,v4] 27 (0,0))∧Below w.heap.size w W:=fun W h =>
   ⟨R.keep (Nat.le_refl _) (fun j hj=>(h.block j (by omega)).trans (BB.out.block j (by omega))),by have:=h.size;omega,(h.block _ (by omega)).trans hb1,BB.out.trans (h.mono (by omega))⟩
  have HKP:=hide KP
  have C1:=hide (eachL_any (KP _ (Below.refl _ _)).1.ty (KP _ (Below.refl _ _)).2.1)
  have C2:=hide (show ∀ W,Below W1.heap.size W1 W→_ from fun W h=>eachF_any (KP W h).1.fu (KP W h).2.1)
  have C3:=hide (show ∀ W,Below W1.heap.size W1 W→_ from fun W h=>eachT_any (KP W h).1.ta (KP W h).2.1)
  have C4:=hide (show ∀ W,Below W1.heap.size W1 W→_ from fun W h=>eachS_any (KP W h).1.st (KP W h).2.1)
  have KC:=hide (show ∀ W,Below W1.heap.size W1 W→W.cell? ⟨w.heap.size,0,none⟩=some v1∧W.cell? ⟨w.heap.size,1,none⟩=some v2∧W.cell? ⟨w.heap.size,2,none⟩=some v3∧W.cell? ⟨w.heap.size,3,none⟩=some v4 from fun W h =>
   have hb:=(KP W h).2.2.1
   ⟨cell_of hb rfl,cell_of hb rfl,cell_of hb rfl,cell_of hb rfl⟩)
  obtain ⟨a1,n1,hv1,_⟩:=R.ty
  obtain ⟨a2,n2,hv2,_⟩:=R.fu
  obtain ⟨a3,n3,hv3,_⟩:=R.ta
  obtain ⟨a4,n4,hv4,_⟩:=R.st
  subst hv1 hv2 hv3 hv4
  obtain ⟨k0,k1,k2,k3⟩:=KC.out W1 (Below.refl _ _)
  unfold sndP
  generalize eachB 1024 sndL p.ty=d1 at *
  generalize eachB 4096 sndF p.fu=d2 at *
  generalize eachB 1024 sndL p.ta=d3 at *
  generalize eachB 1024 sndS p.st=d4 at *
  clear R hB hb1 hz1 KP
  generalize p.ty.length=m1 at *
  generalize p.fu.length=m2 at *
  generalize p.ta.length=m3 at *
  generalize p.st.length=m4 at *
  go_enter Tryz.func47,Tryz.ntmps47
  go_wp2_with fail
  refine C1.out.mono ?_
  rintro e w2 ⟨rfl,hb2⟩
  obtain ⟨l0,l1,l2,l3⟩:=KC.out w2 hb2
  have H2:=hide hb2
  clear hb2 C1 hW1 k0 k1 k2 k3
  cases d1 with
  | false =>
   go_wp2
   go_ret
   exact ⟨rfl,(HKP.out _ H2.out).2.2.2⟩
  | true =>
   go_wp2_with fail
   refine (C2.out w2 H2.out).mono ?_
   rintro e w3 ⟨rfl,hb3⟩
   have H3:=hide (H2.out.trans (hb3.mono H2.out.size))
   obtain ⟨k0,k1,k2,k3⟩:=KC.out w3 H3.out
   clear hb3 C2 H2 l0 l1 l2 l3
   cases d2 with
   | false =>
    go_wp2
    go_ret
    exact ⟨rfl,(HKP.out _ H3.out).2.2.2⟩
   | true =>
    go_wp2_with fail
    refine (C3.out w3 H3.out).mono ?_
    rintro e w4 ⟨rfl,hb4⟩
    have H4:=hide (H3.out.trans (hb4.mono H3.out.size))
    obtain ⟨l0,l1,l2,l3⟩:=KC.out w4 H4.out
    clear hb4 C3 H3 k0 k1 k2 k3
    cases d3 with
    | false =>
     go_wp2
     go_ret
     exact ⟨rfl,(HKP.out _ H4.out).2.2.2⟩
    | true =>
     go_wp2_with fail
     refine (C4.out w4 H4.out).mono ?_
     rintro e w5 ⟨rfl,hb5⟩
     have H5:=hide (H4.out.trans (hb5.mono H4.out.size))
     clear hb5 C4 H4 l0 l1 l2 l3
     go_wp2
     go_ret
     exact ⟨by simp,(HKP.out _ H5.out).2.2.2⟩
end
end Go.Proofs.YtkdojpnihinpbaaGreatDoor

namespace Go.Proofs.YtkdojpnihinpbaaGreatDoor
open Go.RowKit
section
variable {B:Nat} {w:World} {p:Pg}
def CkO (p:Pg) (w:World) (e:Ending) (W:World):Prop:=e=.returned (.tuple #[.int .i64 (checkP p).1,.int .i64 (checkP p).2.1,.int .i64 (checkP p).2.2])∧Below w.heap.size w W
set_option maxRecDepth 100000 in
set_option maxHeartbeats 1000000 in
theorem check_any {v1 v2 v3 v4:Value} (P:PgAt B w v1 v2 v3 v4 p) (hB:B≤w.heap.size) (hT:Tb w) (hb0:0<B):Calls Tryz.prog 31 #[.agg #[v1,v2,v3,v4]] w (CkO p w):=by
 obtain ⟨a1,d1,hv1⟩:=sl_form P.ty
 obtain ⟨a2,d2,hv2⟩:=sl_form P.fu
 obtain ⟨a3,d3,hv3⟩:=sl_form P.ta
 obtain ⟨a4,d4,hv4⟩:=sl_form P.st
 subst hv1 hv2 hv3 hv4
 obtain ⟨W1,hW1⟩ : ∃ W1,w.alloc (.cells #[.slice a1 p.ty.length d1,.slice a2 p.fu.length d2,.slice a3 p.ta.length d3,.slice a4 p.st.length d4] 27)=W1:=⟨_,rfl⟩
 have b1:Below w.heap.size w W1:=by rw [← hW1];exact (Below.refl _ _).alloc (Nat.le_refl _) _
 have e1:W1.heap[w.heap.size]?=some (.cells #[.slice a1 p.ty.length d1,.slice a2 p.fu.length d2,.slice a3 p.ta.length d3,.slice a4 p.st.length d4] 27 (0,0)):=by rw [← hW1];exact heap_new _ _ rfl
 have HBX:=hide (show ∀ W:World,Below W1.heap.size W1 W→W.cell? ⟨w.heap.size,0,none⟩=some (.slice a1 p.ty.length d1)∧W.cell? ⟨w.heap.size,1,none⟩=some (.slice a2 p.fu.length d2)∧W.cell? ⟨w.heap.size,2,none⟩=some (.slice a3 p.ta.length d3)∧W.cell? ⟨w.heap.size,3,none⟩=some (.slice a4 p.st.length d4) from fun W h=>by
  have h1:=(h.block _ (lt_of_block e1)).trans e1
  exact ⟨cell_of h1 rfl,cell_of h1 rfl,cell_of h1 rfl,cell_of h1 rfl⟩)
 have HPG:=hide (show ∀ W:World,Below W1.heap.size W1 W→PgAt B W (.slice a1 p.ty.length d1) (.slice a2 p.fu.length d2) (.slice a3 p.ta.length d3) (.slice a4 p.st.length d4) p∧B≤W.heap.size∧Tb W from fun W h=>⟨P.keep (Nat.le_refl _) (fun j hj=>(bel_tr b1 h).block j (Nat.lt_of_lt_of_le hj hB)),Nat.le_trans hB (bel_tr b1 h).size,hT.keep ((bel_tr b1 h).block 0 (Nat.lt_of_lt_of_le hb0 hB))⟩)
 have HB1:=hide b1
 obtain ⟨k0,k1,k2,k3⟩:=HBX.out W1 (Below.refl _ _)
 have hl0:=lt_of_block e1
 have HSO:=hide (sound_any (HPG.out W1 (Below.refl _ _)).1 (HPG.out W1 (Below.refl _ _)).2.1)
 have HBZ:=hide hb0
 have HCB:=hide (show sndP p=false→checkP p=(0,0,2) from fun h=>by unfold checkP;rw [if_pos h])
 clear P hB hT hb0 b1 e1
 generalize p.ty.length=n1 at *
 generalize p.fu.length=n2 at *
 generalize p.ta.length=n3 at *
 generalize p.st.length=n4 at *
 cases hs:sndP p with
 | false =>
  rw [hs] at HSO
  have HC:=hide (HCB.out hs)
  go_enter Tryz.func31,Tryz.ntmps31
  go_wp2_with fail
  refine HSO.out.mono ?_
  rintro e w2 ⟨rfl,hb2⟩
  have HB2:=hide (bel_tr HB1.out hb2)
  clear hb2
  go_wp2
  refine bodyPost_ret (v:=.tuple #[.int .i64 0,.int .i64 0,.int .i64 2]) (by simp [results,Tryz.results31,go_sem]) rfl ?_
  exact ⟨by rw [HC.out],HB2.out⟩
 | true =>
  rw [hs] at HSO
  have HC:=hide (checkP_ck hs)
  have HFF:=hide (fun (W:World) (h:Below W1.heap.size W1 W)=>first_any (HPG.out W h).1 (HPG.out W h).2.1 hs (HPG.out W h).2.2 HBZ.out)
  clear hs
  go_enter Tryz.func31,Tryz.ntmps31
  go_wp2_with fail
  refine HSO.out.mono ?_
  rintro e w2 ⟨rfl,hb2⟩
  have HB2:=hide hb2
  clear hb2 k0 k1 k2 k3 hW1
  obtain ⟨k0,k1,k2,k3⟩:=HBX.out w2 HB2.out
  have hl2:w.heap.size<w2.heap.size:=Nat.lt_of_lt_of_le hl0 HB2.out.size
  go_wp2_with fail
  refine (HFF.out w2 HB2.out).mono ?_
  rintro e w3 ⟨rfl,hb3⟩
  have HB3:=hide (bel_tr HB1.out (bel_tr HB2.out hb3))
  clear hb3 k0 k1 k2 k3
  obtain ⟨c1,hc1⟩ : ∃ c,(ckP p).1=c:=⟨_,rfl⟩
  obtain ⟨c2,hc2⟩ : ∃ c,(ckP p).2.1=c:=⟨_,rfl⟩
  obtain ⟨c3,hc3⟩ : ∃ c,(ckP p).2.2=c:=⟨_,rfl⟩
  rw [hc1,hc2,hc3]
  have HCC:=hide (show checkP p=(c1,c2,c3) from by rw [HC.out,← hc1,← hc2,← hc3])
  clear hc1 hc2 hc3
  go_wp2_with fail
  go_region
  all_goals go_wp2
  all_goals (
    refine bodyPost_ret (v:=.tuple #[.int .i64 c1,.int .i64 c2,.int .i64 c3]) (by simp [results,Tryz.results31,go_sem]) rfl ?_
    exact ⟨by rw [HCC.out],below_drew (HB3.out.alloc HB3.out.size _)⟩)
def SfO (B:Nat) (p:Pg) (m:Int) (w:World) (e:Ending) (W:World):Prop:=Below w.heap.size w W ∧
  (((checkP p).2.2≠0∧e=.returned (.tuple #[.pointer none,.int .i64 (checkP p).2.2])) ∨
  ((checkP p).2.2=0∧inB m p.fu.length=false∧e=.returned (.tuple #[.pointer none,.int .i64 6])) ∨
  ∃ (k:Nat) (f:Fd) (F:Fl) (A ahb wtb E:Nat) (V:Fv) (at_:Int),(checkP p).2.2=0∧m=(k:Int)∧p.fu[k]?=some f∧followP p f=.ok F∧e=.returned (.tuple #[.pointer (some ⟨A,0,none⟩),.int .i64 0])∧FlM B E A ahb wtb W p f V m at_ F)
end
end Go.Proofs.YtkdojpnihinpbaaGreatDoor

namespace Go.Proofs.YtkdojpnihinpbaaGreatDoor
open Go.RowKit
section
variable {p:Pg} {f:Fd}
theorem puts_err {i:In3} {top low e:Int} (h:putsP p f i top low=.error e):e≠0:=by
 obtain ⟨C,hC⟩ : ∃ C:Except Int (List Int)→Prop,C=fun r=>∀ e,r=.error e→e≠0:=⟨_,rfl⟩
 have ok:∀ l,C (.ok l):=fun l=>by rw [hC];intro e h;cases h
 have e11:C (.error 11):=by rw [hC];intro e h;cases h;decide
 have e8:C (.error 8):=by rw [hC];intro e h;cases h;decide
 suffices hs:C (putsP p f i top low) by rw [hC] at hs;exact hs e h
 unfold putsP
 refine ite_elim C (fun _=>ok _) fun _=>ite_elim C (fun _=>ok _) fun _=>ite_elim C (fun _=>ok _) fun _=>ite_elim C (fun _=>ok _) fun _=>ite_elim C (fun _=>ok _) fun _=>ite_elim C (fun _=>ok _) fun _=>ite_elim C (fun _=>ok _) fun _=>ite_elim C (fun _=>?_) fun _=>ite_elim C (fun _=>?_) fun _=>ite_elim C (fun _=>?_) fun _=>ite_elim C (fun _=>ok _) fun _=>ite_elim C (fun _=>ok _) fun _=>ite_elim C (fun _=>ok _) fun _=>ite_elim C (fun _=>ok _) fun _=>ite_elim C (fun _=>ok _) fun _=>ok _
 · cases fieldP p low i.a with
   | none=>exact e11
   | some k=>exact ok _
 · cases fieldP p low i.a with
   | none=>exact e11
   | some k=>exact ite_elim C (fun _=>ok _) (fun _=>e8)
 · cases fieldP p low i.a with
   | none=>exact e11
   | some k=>exact ite_elim C (fun _=>ok _) (fun _=>e11)
theorem look_err {x:Nat} {i:In3} {s:List Int} {e:Int} (h:lookP p f x i s=.error e):e≠0:=by
 unfold lookP at h
 dsimp only at h
 split at h
 · cases h;decide
 · split at h
   · cases h;decide
   · split at h
     · cases h;decide
     · split at h
       · rename_i e' he
         cases h
         exact puts_err he
       · split at h
         · cases h
         · cases h;decide
theorem come_err {F:Fl} {x:Nat} {s:List Int} {e:Int} (h:comeP F x s=.error e):e≠0:=by
 unfold comeP at h
 split at h
 · cases h
 · split at h
   · cases h
   · cases h;decide
theorem comes_err {s:List Int} {e:Int}:∀ {l:List Int} {F:Fl},comesP s l F=.error e→e≠0
  | [],F,h=>by cases h
  | y :: r,F,h=>by
   unfold comesP at h
   cases hc:comeP F y.toNat s with
   | ok G=>rw [hc] at h;exact comes_err h
   | error e'=>rw [hc] at h;cases h;exact come_err hc
theorem run_err {x:Nat} {e:Int}:∀ {n:Nat} {F:Fl},runP p f n F=.error (x,e)→e≠0
  | 0,F,h=>by cases h
  | n+1,F,h=>by
   unfold runP at h
   split at h
   · cases h
   · rename_i y hy
     cases hs:stepP p f y F with
     | error e' =>
      rw [hs] at h
      cases h
      unfold stepP at hs
      split at hs
      · rename_i e2 he
        cases hs
        exact look_err he
      · exact comes_err hs
     | ok G=>rw [hs] at h;exact run_err h
theorem funcs_ok:∀ {l:List Fd} {i:Nat},(funcsP p i l).2.2=0→funcsP p i l=(0,0,0)∧∀ f∈l,∃ F,followP p f=.ok F
  | [],i,_=>⟨rfl,fun f h=>by cases h⟩
  | g :: r,i,h=>by
   unfold funcsP at h ⊢
   cases hf:followP p g with
   | error xe =>
    rw [hf] at h
    exact absurd h (run_err hf)
   | ok F =>
    rw [hf] at h
    obtain ⟨h1,h2⟩:=funcs_ok h
    refine ⟨h1,fun f hm=>?_⟩
    rcases List.mem_cons.mp hm with rfl | hm
    · exact ⟨F,hf⟩
    · exact h2 f hm
theorem check_ok (h:(checkP p).2.2=0):checkP p=(0,0,0)∧sndP p=true∧headsP p=none∧∀ f∈p.fu,∃ F,followP p f=.ok F:=by
 unfold checkP at h ⊢
 cases hs:sndP p with
 | false=>rw [hs] at h;cases h
 | true =>
  rw [hs] at h
  rw [if_neg (by simp)] at h ⊢
  cases hh:headsP p with
  | some i=>rw [hh] at h;cases h
  | none =>
   rw [hh] at h
   obtain ⟨h1,h2⟩:=funcs_ok h
   exact ⟨h1,rfl,rfl,h2⟩
theorem run_inv (H:Hok p) (hf:FdOk p f):∀ {n k:Nat} {F G:Fl},FInv p f k F→runP p f n F=.ok G→∃ j,j≤k+n∧FInv p f j G
  | 0,k,F,G,I,h=>by cases h;exact ⟨k,by omega,I⟩
  | n+1,k,F,G,I,h=>by
   unfold runP at h
   split at h
   · cases h;exact ⟨k,by omega,I⟩
   · rename_i y hy
     cases hs:stepP p f y F with
     | error e'=>rw [hs] at h;cases h
     | ok G1 =>
      rw [hs] at h
      obtain ⟨j,hj,hI⟩:=run_inv H hf (step_inv H hf I hy hs).1 h
      exact ⟨j,by omega,hI⟩
theorem follow_inv (H:Hok p) (hf:FdOk p f) {F:Fl} (h:followP p f=.ok F):FInv p f (f.co.length+1) F:=by
 obtain ⟨j,hj,hI⟩:=run_inv H hf (fl0_inv hf.co).1 h
 refine ⟨hI.la,hI.lw,fun y t ht=>⟨(hI.st y t ht).1,?_⟩,?_,hI.wa⟩
 · have:=(hI.st y t ht).2
   exact Nat.le_trans this (Nat.mul_le_mul_left _ (by omega))
 · exact Nat.le_trans hI.mo (Nat.mul_le_mul_left _ (by omega))
end
section
variable {B:Nat} {w:World} {p:Pg}
set_option maxRecDepth 100000 in
set_option maxHeartbeats 1000000 in
theorem soundFlow_any {v1 v2 v3 v4:Value} (P:PgAt B w v1 v2 v3 v4 p) (hB:B≤w.heap.size) (hT:Tb w) (hb0:0<B) (m:Int):Calls Tryz.prog 18 #[.agg #[v1,v2,v3,v4],.int .i64 m] w (SfO B p m w):=by
 obtain ⟨a1,d1,hv1⟩:=sl_form P.ty
 obtain ⟨a2,d2,hv2⟩:=sl_form P.fu
 obtain ⟨a3,d3,hv3⟩:=sl_form P.ta
 obtain ⟨a4,d4,hv4⟩:=sl_form P.st
 subst hv1 hv2 hv3 hv4
 obtain ⟨W1,hW1⟩ : ∃ W1,w.alloc (.cells #[.slice a1 p.ty.length d1,.slice a2 p.fu.length d2,.slice a3 p.ta.length d3,.slice a4 p.st.length d4] 27)=W1:=⟨_,rfl⟩
 have b1:Below w.heap.size w W1:=by rw [← hW1];exact (Below.refl _ _).alloc (Nat.le_refl _) _
 have e1:W1.heap[w.heap.size]?=some (.cells #[.slice a1 p.ty.length d1,.slice a2 p.fu.length d2,.slice a3 p.ta.length d3,.slice a4 p.st.length d4] 27 (0,0)):=by rw [← hW1];exact heap_new _ _ rfl
 have HBX:=hide (show ∀ W:World,Below W1.heap.size W1 W→W.cell? ⟨w.heap.size,0,none⟩=some (.slice a1 p.ty.length d1)∧W.cell? ⟨w.heap.size,1,none⟩=some (.slice a2 p.fu.length d2)∧W.cell? ⟨w.heap.size,2,none⟩=some (.slice a3 p.ta.length d3)∧W.cell? ⟨w.heap.size,3,none⟩=some (.slice a4 p.st.length d4) from fun W h=>by
  have h1:=(h.block _ (lt_of_block e1)).trans e1
  exact ⟨cell_of h1 rfl,cell_of h1 rfl,cell_of h1 rfl,cell_of h1 rfl⟩)
 have HPG:=hide (show ∀ W:World,Below W1.heap.size W1 W→PgAt B W (.slice a1 p.ty.length d1) (.slice a2 p.fu.length d2) (.slice a3 p.ta.length d3) (.slice a4 p.st.length d4) p∧B≤W.heap.size∧Tb W from fun W h=>⟨P.keep (Nat.le_refl _) (fun j hj=>(bel_tr b1 h).block j (Nat.lt_of_lt_of_le hj hB)),Nat.le_trans hB (bel_tr b1 h).size,hT.keep ((bel_tr b1 h).block 0 (Nat.lt_of_lt_of_le hb0 hB))⟩)
 have HB1:=hide b1
 obtain ⟨k0,k1,k2,k3⟩:=HBX.out W1 (Below.refl _ _)
 have hl0:=lt_of_block e1
 have HCK:=hide (check_any (HPG.out W1 (Below.refl _ _)).1 (HPG.out W1 (Below.refl _ _)).2.1 (HPG.out W1 (Below.refl _ _)).2.2 hb0)
 have HBZ:=hide hb0
 clear P hB hT hb0 b1 e1
 obtain ⟨n2,hN2⟩ : ∃ n,p.fu.length=n:=⟨_,rfl⟩
 rw [hN2] at HBX HPG HCK k1 hW1 ⊢
 have HN2:=hide hN2
 clear hN2
 generalize p.ty.length=n1 at *
 generalize p.ta.length=n3 at *
 generalize p.st.length=n4 at *
 have HCC:=hide (check_ok (p:=p))
 unfold CkO at HCK
 obtain ⟨cf,hcf⟩ : ∃ c,(checkP p).1=c:=⟨_,rfl⟩
 obtain ⟨ca,hca⟩ : ∃ c,(checkP p).2.1=c:=⟨_,rfl⟩
 obtain ⟨ce,hce⟩ : ∃ c,(checkP p).2.2=c:=⟨_,rfl⟩
 rw [hcf,hca,hce] at HCK
 have HCE:=hide hce
 clear hcf hca hce
 by_cases hc0:ce=0
 · have q0:(ce != 0)=false:=by simp [hc0]
   obtain ⟨_,o1,o2,o3⟩:=HCC.out (HCE.out.trans hc0)
   cases hin:inB m n2 with
   | false =>
    have HF:=hide (show ∀ W:World,Below w.heap.size w W→SfO B p m w (.returned (.tuple #[.pointer none,.int .i64 6])) W from fun W h=>⟨h,.inr (.inl ⟨HCE.out.trans hc0,by rw [HN2.out];exact hin,rfl⟩)⟩)
    have HW:=hide (fun W:World=>within_any W m n2)
    rw [hin] at HW
    clear hc0 o1 o2 o3
    go_enter Tryz.func18,Tryz.ntmps18
    go_wp2_with fail
    refine HCK.out.mono ?_
    rintro e w2 ⟨rfl,hb2⟩
    have HB2:=hide hb2
    clear hb2 k0 k1 k2 k3 hW1
    obtain ⟨k0,k1,k2,k3⟩:=HBX.out w2 HB2.out
    have hl2:w.heap.size<w2.heap.size:=Nat.lt_of_lt_of_le hl0 HB2.out.size
    go_wp2_with fail
    refine (HW.out _).mono ?_
    rintro e w3 ⟨rfl,rfl⟩
    go_wp2
    go_ret2
    exact HF.out _ (bel_tr HB1.out HB2.out)
   | true =>
    obtain ⟨mk,rfl,hmk⟩:=in_nat hin
    obtain ⟨f,hf⟩ : ∃ f,p.fu[mk]?=some f:=⟨p.fu[mk]'(by rw [HN2.out];exact hmk),by simp⟩
    obtain ⟨F,hF⟩:=o3 f (List.mem_of_getElem? hf)
    have HFO:=hide (fun (W:World) (h:Below W1.heap.size W1 W)=>follow_any (HPG.out W h).1 (HPG.out W h).2.1 (hok_of o1 o2) (HPG.out W h).2.2 HBZ.out hf)
    have HFN:=hide (show ∀ W:World,Below w.heap.size w W→∀ (A ahb wtb E:Nat) (V:Fv) (at_:Int),FlM B E A ahb wtb W p f V mk at_ F→SfO B p mk w (.returned (.tuple #[.pointer (some ⟨A,0,none⟩),.int .i64 0])) W from fun W h A ahb wtb E V at_ hM=>⟨h,.inr (.inr ⟨mk,f,F,A,ahb,wtb,E,V,at_,HCE.out.trans hc0,rfl,hf,hF,rfl,hM⟩)⟩)
    have HFF:=hide hF
    have HW:=hide (fun W:World=>within_any W (mk:Int) n2)
    rw [hin] at HW
    clear hc0 o1 o2 o3 hf hF
    go_enter Tryz.func18,Tryz.ntmps18
    go_wp2_with fail
    refine HCK.out.mono ?_
    rintro e w2 ⟨rfl,hb2⟩
    have HB2:=hide hb2
    clear hb2 k0 k1 k2 k3 hW1
    obtain ⟨k0,k1,k2,k3⟩:=HBX.out w2 HB2.out
    have hl2:w.heap.size<w2.heap.size:=Nat.lt_of_lt_of_le hl0 HB2.out.size
    go_wp2_with fail
    refine (HW.out _).mono ?_
    rintro e w3 ⟨rfl,rfl⟩
    go_wp2_with fail
    refine (HFO.out _ HB2.out).mono ?_
    rintro e w4 ⟨h4,hb4⟩
    rw [HFF.out] at h4
    obtain ⟨A,ahb,wtb,E,V,at_,rfl,hM⟩:=h4
    have HM:=hide hM
    have HB4:=hide (bel_tr HB1.out (bel_tr HB2.out hb4))
    clear hM hb4
    go_wp2
    go_ret2
    exact HFN.out _ HB4.out _ _ _ _ _ _ HM.out
 · have q0:(ce != 0)=true:=by simpa using hc0
   have HF:=hide (show ∀ W:World,Below w.heap.size w W→SfO B p m w (.returned (.tuple #[.pointer none,.int .i64 ce])) W from fun W h=>⟨h,.inl ⟨by rw [HCE.out];exact hc0,by rw [HCE.out]⟩⟩)
   clear hc0
   go_enter Tryz.func18,Tryz.ntmps18
   go_wp2_with fail
   refine HCK.out.mono ?_
   rintro e w2 ⟨rfl,hb2⟩
   have HB2:=hide hb2
   clear hb2
   go_wp2
   go_ret2
   exact HF.out _ (bel_tr HB1.out HB2.out)
end
end Go.Proofs.YtkdojpnihinpbaaGreatDoor
