/- The first fault of a program: caught. -/
import Derived.Test.YtkdojpnihinpbaaDoorVfFoJl
import Derived.Recover
namespace Go.Proofs.YtkdojpnihinpbaaDoor
set_option maxRecDepth 100000
set_option maxHeartbeats 1000000
open Go.RowKit
theorem catch_pan (b:Nat) (f a e x y z:Int) (w:World) (hb:w.heap[b]?=some (.cells #[.int .i64 x,.int .i64 y,.int .i64 z] 78 (0,0))) :
    CallsD Tryd.prog 46 #[.pointer (some ⟨b,0,none⟩)] (.panicking (fch f a e)) w fun r u' w' =>
     r=.returned (.tuple #[])∧u' = .panicking [{ v:=.iface 78 (.agg #[.int .i64 f,.int .i64 a,.int .i64 e]),recovered:=true }]∧w' = ((w.setCell ⟨b,0,none⟩ (.int .i64 f)).setCell ⟨b,1,none⟩ (.int .i64 a)).setCell ⟨b,2,none⟩ (.int .i64 e):=by
  have c0:w.cell? ⟨b,0,none⟩=some (.int .i64 x):=cell_of hb rfl
  have c1:w.cell? ⟨b,1,none⟩=some (.int .i64 y):=cell_of hb rfl
  have c2:w.cell? ⟨b,2,none⟩=some (.int .i64 z):=cell_of hb rfl
  have f0:w.frozen? ⟨b,0,none⟩=false:=by simp [World.frozen?,hb]
  have f1:w.frozen? ⟨b,1,none⟩=false:=by simp [World.frozen?,hb]
  have f2:w.frozen? ⟨b,2,none⟩=false:=by simp [World.frozen?,hb]
  have hl:=lt_of_block hb
  have hta:(Instr.typeAssert (.iface 78 (.agg #[.int .i64 f,.int .i64 a,.int .i64 e])) 20 78 false).run Tryd.prog w=.ok (.agg #[.int .i64 f,.int .i64 a,.int .i64 e]) w:=by rfl
  refine callsD_of_wpS Tryd.func46 rfl fun c₀ cs hu=>?_
  apply wpS_seq
  apply wpS_region
  simp [wpOpsS,go_sem,recoverD,hu,Tryd.ntmps46,Exit.thenS,fch]
  apply wpS_of_wp
  simp only [Array.replicate_succ,Array.replicate_zero,List.push_toArray,List.append_toArray,List.nil_append,List.cons_append,List.setIfInBounds_toArray,List.set_cons_zero,List.set_cons_succ]
  go_wp2
  simp [bodyPostS,results,Tryd.results46]
theorem catch_no (b:Nat) (w:World):CallsD Tryd.prog 46 #[.pointer (some ⟨b,0,none⟩)] .returning w fun r u' w'=>r=.returned (.tuple #[])∧u' = .returning∧w' = w:=by
 refine callsD_of_wpS Tryd.func46 rfl fun c₀ cs hu=>?_
 apply wpS_seq
 apply wpS_region
 simp [wpOpsS,go_sem,recoverD,hu,Tryd.ntmps46,Exit.thenS]
 apply wpS_of_wp
 simp only [Array.replicate_succ,Array.replicate_zero,List.push_toArray,List.append_toArray,List.nil_append,List.cons_append,List.setIfInBounds_toArray,List.set_cons_zero,List.set_cons_succ]
 go_wp2
 simp [bodyPostS,results,Tryd.results46]
 cases c₀
 simp_all
def ckP (p:Pg):Int × Int × Int:=match headsP p with
  | some i=>((i:Int),0,12)
  | none=>funcsP p 0 p.fu
theorem checkP_ck {p:Pg} (h:sndP p=true):checkP p=ckP p:=by
 unfold checkP
 rw [if_neg (by rw [h];simp)]
 rfl
def FfO (p:Pg) (w:World) (e:Ending) (W:World):Prop:=e=.returned (.agg #[.int .i64 (ckP p).1,.int .i64 (ckP p).2.1,.int .i64 (ckP p).2.2])∧Below w.heap.size w W
def FfR (p:Pg) (w:World) (a:Value) (wr:World):Prop:=∃ j:Nat,a=.int .i64 j∧j≤p.fu.length∧funcsP p 0 p.fu=funcsP p j (p.fu.drop j)∧Below w.heap.size w wr
theorem three_set {b:Nat} {x y z f a e:Int} {w:World} (hb:w.heap[b]?=some (.cells #[.int .i64 x,.int .i64 y,.int .i64 z] 78 (0,0))) {W:World} (hW:((w.setCell ⟨b,0,none⟩ (.int .i64 f)).setCell ⟨b,1,none⟩ (.int .i64 a)).setCell ⟨b,2,none⟩ (.int .i64 e)=W):(W.cell? ⟨b,0,none⟩=some (.int .i64 f)∧W.cell? ⟨b,1,none⟩=some (.int .i64 a)∧W.cell? ⟨b,2,none⟩=some (.int .i64 e))∧∀ {n:Nat} {w0:World},n≤b→Below n w0 w→Below n w0 W:=by
 have h1:=heap_setCell_same w b 0 (.int .i64 f) hb
 have h2:=heap_setCell_same _ b 1 (.int .i64 a) h1
 have h3:=heap_setCell_same _ b 2 (.int .i64 e) h2
 rw [hW] at h3
 refine ⟨⟨cell_of h3 rfl,cell_of h3 rfl,cell_of h3 rfl⟩,fun {n w0} hn hb=>?_⟩
 rw [← hW]
 exact ((hb.setCell (p:=⟨b,0,none⟩) hn _).setCell (p:=⟨b,1,none⟩) hn _).setCell (p:=⟨b,2,none⟩) hn _
section
variable {B:Nat} {w:World} {p:Pg}
theorem first_any {v1 v2 v3 v4:Value} (P:PgAt B w v1 v2 v3 v4 p) (hB:B≤w.heap.size) (hs:sndP p=true) (hT:Tb w) (hb0:0<B):Calls Tryd.prog 24 #[.agg #[v1,v2,v3,v4]] w (FfO p w):=by
 have hmf:∀ (fn:Fn) (first cap:Array Value) (w:World),(Instr.makeFunc fn first cap).run Tryd.prog w=.ok (.func fn first cap) w:=fun _ _ _ _=>rfl
 obtain ⟨a1,d1,hv1⟩:=sl_form P.ty
 obtain ⟨a2,d2,hv2⟩:=sl_form P.fu
 obtain ⟨a3,d3,hv3⟩:=sl_form P.ta
 obtain ⟨a4,d4,hv4⟩:=sl_form P.st
 subst hv1 hv2 hv3 hv4
 obtain ⟨W1,hW1⟩ : ∃ W1,(w.alloc (.cells #[.slice a1 p.ty.length d1,.slice a2 p.fu.length d2,.slice a3 p.ta.length d3,.slice a4 p.st.length d4] 27)).alloc (.cells #[.int .i64 0,.int .i64 0,.int .i64 0] 78)=W1:=⟨_,rfl⟩
 have b1:Below w.heap.size w W1:=by rw [← hW1];exact ((Below.refl _ _).alloc (Nat.le_refl _) _).alloc (by simp) _
 have e1:W1.heap[w.heap.size]?=some (.cells #[.slice a1 p.ty.length d1,.slice a2 p.fu.length d2,.slice a3 p.ta.length d3,.slice a4 p.st.length d4] 27 (0,0)):=by rw [← hW1,Below.heap_alloc _ _ _ (by simp)];exact heap_new _ _ rfl
 have e2:W1.heap[w.heap.size+1]?=some (.cells #[.int .i64 0,.int .i64 0,.int .i64 0] 78 (0,0)):=by rw [← hW1];exact heap_new _ _ (by simp)
 have HBX:=hide (show ∀ W:World,Below W1.heap.size W1 W→(W.cell? ⟨w.heap.size,0,none⟩=some (.slice a1 p.ty.length d1)∧W.cell? ⟨w.heap.size,1,none⟩=some (.slice a2 p.fu.length d2)∧W.cell? ⟨w.heap.size,2,none⟩=some (.slice a3 p.ta.length d3)∧W.cell? ⟨w.heap.size,3,none⟩=some (.slice a4 p.st.length d4))∧W.heap[w.heap.size+1]?=some (.cells #[.int .i64 0,.int .i64 0,.int .i64 0] 78 (0,0)) from fun W h=>by
  have h1:=(h.block _ (lt_of_block e1)).trans e1
  exact ⟨⟨cell_of h1 rfl,cell_of h1 rfl,cell_of h1 rfl,cell_of h1 rfl⟩,(h.block _ (lt_of_block e2)).trans e2⟩)
 have HBW:=hide (show ∀ W:World,Below W1.heap.size W1 W→Below w.heap.size w W from fun W h=>bel_tr b1 h)
 have HPG:=hide (show ∀ W:World,Below W1.heap.size W1 W→PgAt B W (.slice a1 p.ty.length d1) (.slice a2 p.fu.length d2) (.slice a3 p.ta.length d3) (.slice a4 p.st.length d4) p∧B≤W.heap.size∧Tb W from fun W h=>⟨P.keep (Nat.le_refl _) (fun j hj=>(bel_tr b1 h).block j (Nat.lt_of_lt_of_le hj hB)),Nat.le_trans hB (bel_tr b1 h).size,hT.keep ((bel_tr b1 h).block 0 (Nat.lt_of_lt_of_le hb0 hB))⟩)
 have hs2:=hs
 simp only [sndP,Bool.and_eq_true] at hs2
 obtain ⟨s1,s2,s3,_⟩:=hs2
 obtain ⟨⟨k0,k1,k2,k3⟩,kf⟩:=HBX.out W1 (Below.refl _ _)
 have HHD:=hide (heads_any (HPG.out W1 (Below.refl _ _)).1 (HPG.out W1 (Below.refl _ _)).2.1 (fun f hf=>by
  have:=(eachB_le s2).2 f hf
  simp only [sndF,Bool.and_eq_true,decide_eq_true_eq] at this
  exact ⟨this.2.1,this.2.2.1⟩) (eachB_le s1).1 (eachB_le s2).1 (eachB_le s3).1)
 have HEND:=hide (show ∀ (w2 W:World) (f a e:Int),Below W1.heap.size W1 w2→((w2.setCell ⟨w.heap.size+1,0,none⟩ (.int .i64 f)).setCell ⟨w.heap.size+1,1,none⟩ (.int .i64 a)).setCell ⟨w.heap.size+1,2,none⟩ (.int .i64 e)=W→(W.cell? ⟨w.heap.size+1,0,none⟩=some (.int .i64 f)∧W.cell? ⟨w.heap.size+1,1,none⟩=some (.int .i64 a)∧W.cell? ⟨w.heap.size+1,2,none⟩=some (.int .i64 e))∧Below w.heap.size w W from fun w2 W f a e h hW=>by
  obtain ⟨h1,h2⟩:=three_set (HBX.out w2 h).2 hW
  exact ⟨h1,h2 (by omega) (HBW.out w2 h)⟩)
 have HS:=hide hs
 have HBZ:=hide hb0
 have hn2:p.fu.length≤4096:=(eachB_le s2).1
 have hl0:=lt_of_block e1
 have hl1:=lt_of_block e2
 clear P hB hT hb0 s1 s2 s3 b1 e1 e2
 generalize p.ty.length=n1 at *
 generalize p.ta.length=n3 at *
 generalize p.st.length=n4 at *
 generalize hN2:p.fu.length=n2 at *
 have HN2:=hide hN2
 clear hN2
 go_enter_defers Tryd.func24,Tryd.ntmps24
 go_wp2_with fail
 refine HHD.out.mono ?_
 rintro e w2 ⟨hh2,hb2⟩
 cases hhp:headsP p with
 | some i =>
  rw [hhp] at hh2
  have hh3:e=.panicked (fch i 0 12):=hh2
  subst hh3
  have hck:ckP p=((i:Int),0,12):=by unfold ckP;rw [hhp]
  refine leaves_cons (f:=46) (args:=#[.pointer (some ⟨w.heap.size+1,0,none⟩)]) (by simp) (by simp [go_sem]) ?_
  refine (catch_pan (w.heap.size+1) _ _ _ 0 0 0 w2 (HBX.out w2 hb2).2).mono ?_
  rintro e u' w3 ⟨rfl,rfl,hw3⟩
  obtain ⟨⟨c0,c1,c2⟩,hbw⟩:=HEND.out w2 w3 _ _ _ hb2 hw3.symm
  simp [Leaves,settle,results,Tryd.results24,go_sem,c0,c1,c2]
  exact ⟨by rw [hck],hbw⟩
 | none =>
  rw [hhp] at hh2
  obtain ⟨v2,rfl⟩:=hh2
  have HCK:=hide (show ckP p=funcsP p 0 p.fu from by unfold ckP;rw [hhp])
  have HOK:=hide (hok_of HS.out hhp)
  have HB2:=hide hb2
  clear hb2 hhp k0 k1 k2 k3 kf hW1
  obtain ⟨⟨k0,k1,k2,k3⟩,kf⟩:=HBX.out w2 HB2.out
  go_wp2
  go_loopw [10] (fun a wr=>FfR p W1 a wr) (fun a _=>n2 - (intOf a).toNat)
  case atStart=>exact ⟨0,rfl,Nat.zero_le _,rfl,HB2.out⟩
  case round =>
   clear k0 k1 k2 k3 kf
   obtain ⟨j,rfl,hj,hfu,hb⟩:=hrel
   have HFU:=hide hfu
   have HBR:=hide hb
   rw [HN2.out] at hj
   clear hfu hb
   obtain ⟨⟨k0,k1,k2,k3⟩,kf⟩:=HBX.out wr HBR.out
   by_cases hlt:j<n2
   · obtain ⟨f,hf⟩ : ∃ f,p.fu[j]?=some f:=⟨p.fu[j]'(by rw [HN2.out];exact hlt),by simp⟩
     have d1:decide (j<n2)=true:=by simpa using hlt
     have HFO:=hide (follow_any (HPG.out wr HBR.out).1 (HPG.out wr HBR.out).2.1 HOK.out (HPG.out wr HBR.out).2.2 HBZ.out hf)
     have HDR:=hide (show p.fu.drop j=f :: p.fu.drop (j+1) from by rw [List.drop_eq_getElem_cons (by rw [HN2.out];exact hlt)];congr 1;exact (List.getElem?_eq_some_iff.mp hf).2)
     have HFP:=hide (show funcsP p 0 p.fu=match followP p f with
         | .error (x,e)=>((j:Int),(x:Int),e)
         | .ok _=>funcsP p (j+1) (p.fu.drop (j+1)) from by rw [HFU.out,HDR.out];rfl)
     have d2:(j:Int)≤4096:=by omega
     clear hf
     go_wp2_with fail
     refine HFO.out.mono ?_
     rintro e w4 ⟨h4,hb4⟩
     cases hfl:followP p f with
     | error xe =>
      obtain ⟨x,ee⟩:=xe
      rw [hfl] at h4 HFP
      have h5:e=.panicked (fch (j:Int) (x:Int) ee):=h4
      subst h5
      have hck:ckP p=((j:Int),(x:Int),ee):=HCK.out.trans HFP.out
      have hb5:=bel_tr HBR.out hb4
      refine leaves_cons (f:=46) (args:=#[.pointer (some ⟨w.heap.size+1,0,none⟩)]) (by simp) (by simp [go_sem]) ?_
      refine (catch_pan (w.heap.size+1) _ _ _ 0 0 0 w4 (HBX.out w4 hb5).2).mono ?_
      rintro e u' w5 ⟨rfl,rfl,hw5⟩
      obtain ⟨⟨c0,c1,c2⟩,hbw⟩:=HEND.out w4 w5 _ _ _ hb5 hw5.symm
      simp [Leaves,settle,results,Tryd.results24,go_sem,c0,c1,c2]
      exact ⟨by rw [hck],hbw⟩
     | ok F =>
      rw [hfl] at h4 HFP
      obtain ⟨A,ahb,wtb,E,V,at_,rfl,_⟩:=h4
      have HB4:=hide (bel_tr HBR.out hb4)
      clear hb4 hfl
      go_wp2
      go_roundw
      case rel=>exact ⟨j+1,by first | exact num_next hlt (by omega) | go_num,by rw [HN2.out];exact hlt,HFP.out,HB4.out⟩
      case measure=>first | exact meas_int hlt (by omega) | (rw [intOf_int,intOf_int];omega)
   · obtain rfl:n2=j:=by omega
     have d1:decide (n2<n2)=false:=by simp
     have HFP:=hide (show ckP p=(0,0,0) from by rw [HCK.out,HFU.out,← HN2.out,List.drop_length];rfl)
     have q0:wr.cell? ⟨w.heap.size+1,0,none⟩=some (.int .i64 0):=cell_of kf rfl
     have q1:wr.cell? ⟨w.heap.size+1,1,none⟩=some (.int .i64 0):=cell_of kf rfl
     have q2:wr.cell? ⟨w.heap.size+1,2,none⟩=some (.int .i64 0):=cell_of kf rfl
     have z0:wr.frozen? ⟨w.heap.size+1,0,none⟩=false:=by simp [World.frozen?,kf]
     have z1:wr.frozen? ⟨w.heap.size+1,1,none⟩=false:=by simp [World.frozen?,kf]
     have z2:wr.frozen? ⟨w.heap.size+1,2,none⟩=false:=by simp [World.frozen?,kf]
     have hlw:=lt_of_block kf
     have HKF:=hide kf
     clear kf
     go_wp2
     refine leaves_cons (f:=46) (args:=#[.pointer (some ⟨w.heap.size+1,0,none⟩)]) (by simp) (by simp [go_sem]) ?_
     generalize hWE:((wr.setCell ⟨w.heap.size+1,0,none⟩ (.int .i64 0)).setCell ⟨w.heap.size+1,1,none⟩ (.int .i64 0)).setCell ⟨w.heap.size+1,2,none⟩ (.int .i64 0)=WE
     obtain ⟨⟨c0,c1,c2⟩,hbw⟩:=HEND.out wr WE _ _ _ HBR.out hWE
     refine (catch_no (w.heap.size+1) WE).mono ?_
     rintro e u' w5 ⟨rfl,rfl,rfl⟩
     simp [Leaves,settle,results,Tryd.results24,go_sem,c0,c1,c2]
     exact ⟨by rw [HFP.out],hbw⟩
end
end Go.Proofs.YtkdojpnihinpbaaDoor
