/- look: one instruction of a function. -/
import Derived.Test.YtkdojpnihinpbaaGreatDoorVfWJo
import Derived.Test.YtkdojpnihinpbaaGreatDoorVfHJo
import Derived.Test.YtkdojpnihinpbaaGreatDoorVfTkJo
namespace Go.Proofs.YtkdojpnihinpbaaGreatDoor
open Go.RowKit
section
variable {B E A ahb wtb:Nat} {w w' : World} {p:Pg} {f:Fd} {V:Fv} {fi:Int} {F:Fl}
theorem FiC.up {m B B' : Nat} {Z:Nat→Prop} {fn:Nat} {caps:Array Value} {mu:Must} {ks:List Int} {U:Nat→World→Prop} (C:FiC m B Z fn caps mu ks U) (h:B≤B'):FiC m B' Z fn caps mu ks U:=⟨C.fn,C.en,C.n,fun j hj=>Nat.lt_of_lt_of_le (C.low j hj) h,fun k W W' h1 h2=>C.st k W W' h1 (fun j hj=>h2 j (Nat.lt_of_lt_of_le hj h)),C.call⟩
theorem FlM.most {at_:Int} (M:FlM B E A ahb wtb w p f V fi at_ F) {m:Nat} {W:World} (hW:w.setCell ⟨A,13,none⟩ (.int .i64 (m:Int))=W):FlM B E A ahb wtb W p f V fi at_ { F with mo:=m }:=by
 have hk:∀ j,j≠A→W.heap[j]?=w.heap[j]?:=fun j hj=>by rw [← hW];exact Below.heap_setCell _ _ _ j hj
 have hK:Kp (Xf A ahb wtb) w W:=Kp.set (.inl rfl) hW
 have hz:w.heap.size≤W.heap.size:=hK.size
 have hb:∀ j,j<B→W.heap[j]?=w.heap[j]?:=fun j hj=>hk j (by have:=M.bA;omega)
 refine ⟨⟨Nat.le_trans M.fl.hB hz,?_,M.fl.pg.keep (Nat.le_refl _) hb,ints_keep (Nat.le_refl _) hb M.fl.lo,ints_keep (Nat.le_refl _) hb M.fl.re,ints_keep (Nat.le_refl _) hb M.fl.ar,ins_keep (Nat.le_refl _) hb M.fl.co⟩,M.va,M.vw,M.ah.keep hK (hk ahb (Ne.symm M.d1)),M.qu.keep (hk wtb (Ne.symm M.d2)),M.d1,M.d2,M.d3,M.bA,M.bh,M.bw,M.b0,M.tb.keep (hb 0 M.b0),M.nc⟩
 rw [← hW,heap_setCell_same _ _ _ _ M.fl.box]
 rfl
theorem come_any {at_:Int} (M:FlM B E A ahb wtb w p f V fi at_ F) {x b:Nat} {s:List Int} (hx:x<f.co.length) (P:PileAt (Xf A ahb wtb) w E b s) (hs:s.length≤4000000000000) (hl:∀ (y:Nat) (t:List Int),F.ah[y]?=some (some t)→t.length≤4000000000000) :
    Calls Tryz.prog 50 #[.pointer (some ⟨A,0,none⟩),.int .i64 x,pp b] w (CoO B E A ahb wtb p f V fi at_ (comeP F x s) w):=by
  have hlen:F.ah.length=f.co.length:=M.ah.1
  obtain ⟨o,ho⟩ : ∃ o,F.ah[x]?=some o:=⟨F.ah[x]'(by omega),by simp⟩
  cases o with
  | none =>
   have h1:comeP F x s=.ok { F with ah:=F.ah.set x (some s),wt:=F.wt.set x true }:=by unfold comeP;rw [ho];rfl
   rw [h1]
   exact come_first M hx P ho hs
  | some t =>
   have h1:comeP F x s=if t=s then .ok F else .error 9:=by unfold comeP;rw [ho];rfl
   exact come_again M hx P ho (hl x t ho) (fun e=>h1.trans (if_pos e)) (fun e=>h1.trans (if_neg e))
theorem comeP_len {x:Nat} {s:List Int} {G:Fl} (h:comeP F x s=.ok G) (hs:s.length≤4000000000000) (hl:∀ (y:Nat) (t:List Int),F.ah[y]?=some (some t)→t.length≤4000000000000):∀ (y:Nat) (t:List Int),G.ah[y]?=some (some t)→t.length≤4000000000000:=by
 unfold comeP at h
 split at h
 · cases h
   intro y t ht
   dsimp only at ht
   rw [List.getElem?_set] at ht
   split at ht
   · split at ht
     · cases ht;exact hs
     · cases ht
   · exact hl y t ht
 · split at h
   · cases h;exact hl
   · cases h
def LpA (l:List Int) (n:Nat) (w:World) (a:Value) (wr:World):Prop:=∃ j:Nat,a=.int .i64 j∧j≤l.length∧(l.take j).all (fun y=>inB y n)=true∧Below w.heap.size w wr
def LpB (B E A ahb wtb:Nat) (p:Pg) (f:Fd) (V:Fv) (fi at_:Int) (b:List Int) (l:List Int) (F:Fl) (w:World) (a:Value) (wr:World):Prop:=∃ (j:Nat) (G:Fl),a=.int .i64 j∧j≤l.length∧comesP b l F=comesP b (l.drop j) G∧FlM B E A ahb wtb wr p f V fi at_ G∧Kp (Xf A ahb wtb) w wr∧∀ (y:Nat) (t:List Int),G.ah[y]?=some (some t)→t.length≤4000000000000
set_option maxRecDepth 100000 in
set_option maxHeartbeats 4000000 in
theorem look_any {x b:Nat} (M:FlM B E A ahb wtb w p f V fi x F) (H:Hok p) (hf:FdOk p f) (hx:x<f.co.length) (i:In3) (hr : -9223372036854775808≤i.a∧i.a≤9223372036854775807) {s:List Int} (P:PileAt (Xf A ahb wtb) w E b s) (hk:∀ k∈s,isKB p.ty.length k=true) (hs:s.length≤1000000000000) (hah:∀ (y:Nat) (t:List Int),F.ah[y]?=some (some t)→t.length≤4000000000000) :
    Calls Tryz.prog 52 #[.pointer (some ⟨A,0,none⟩),.agg #[.int .i64 i.o,.int .i64 i.a,.int .i64 i.b],pp b] w (CoO B E A ahb wtb p f V fi x (lkR p f x i s F) w):=by
  obtain ⟨W1,hW1,b1,hI⟩:=bxi w i
  have HCL:=hide (show ∀ W:World,Below W1.heap.size W1 W→W.cell? ⟨A,0,none⟩=some (.int .i64 fi)∧W.cell? ⟨A,1,none⟩=some (.int .i64 x)∧W.cell? ⟨w.heap.size,0,none⟩=some (.int .i64 i.o)∧W.cell? ⟨w.heap.size,1,none⟩=some (.int .i64 i.a)∧W.cell? ⟨w.heap.size,2,none⟩=some (.int .i64 i.b)∧W.cell? ⟨b,2,none⟩=some (.int .i64 (s.length:Int)) from fun W h=>by
   have hA:=((M.below b1).below h).fl.box
   have hI2:=(h.block _ (lt_of_block hI)).trans hI
   exact ⟨cell_of hA rfl,cell_of hA rfl,cell_of hI2 rfl,cell_of hI2 rfl,cell_of hI2 rfl,((P.keep (Kp.of_below b1)).keep (Kp.of_below h)).dep⟩)
  have HM:=hide (show ∀ W:World,Below W1.heap.size W1 W→FlM B E A ahb wtb W p f V fi x F from fun W h=>(M.below b1).below h)
  have HP:=hide (show ∀ W:World,Below W1.heap.size W1 W→PileAt (Xf A ahb wtb) W E b s from fun W h=>(P.keep (Kp.of_below b1)).keep (Kp.of_below h))
  have HXB:=hide (show ∀ j,Xf A ahb wtb j→B≤j∧j<w.heap.size from fun j hj=>M.lt hj)
  have HB:=hide b1
  have HERR:=hide (show ∀ (W:World) (e:Int),Below W1.heap.size W1 W→lkR p f x i s F=.error e→CoO B E A ahb wtb p f V fi x (lkR p f x i s F) w (.panicked (fch fi x e)) W from fun W e h hr=>by
   rw [hr]
   exact ⟨rfl,Kp.of_below (bel_tr b1 h)⟩)
  obtain ⟨k0,k1,k2,k3,k4,k5⟩:=HCL.out W1 (Below.refl _ _)
  have hlA:A<W1.heap.size:=((HM.out W1 (Below.refl _ _)).lt (.inl rfl)).2
  have hlI:=lt_of_block hI
  have hlb:b<W1.heap.size:=(HP.out W1 (Below.refl _ _)).lt
  have HNM:=hide (fun (W:World) (h:Below W1.heap.size W1 W)=>names_any (HM.out W h).fl i hr)
  have HK:=hide hk
  have HS:=hide hs
  clear M P b1 hI hr hk hs
  obtain ⟨R,hR⟩ : ∃ R,lkR p f x i s F=R:=⟨_,rfl⟩
  rw [hR] at HERR ⊢
  have HR:=hide hR
  clear hR
  obtain ⟨nb,hnb⟩ : ∃ nb,namesB p f i=nb:=⟨_,rfl⟩
  rw [hnb] at HNM
  have HNB:=hide hnb
  clear hnb
  go_enter Tryz.func52,Tryz.ntmps52
  go_wp2_with fail
  refine wp_region_held_drew (S:=(fun W=>Below W1.heap.size W1 W∧W.cell? ⟨A,0,none⟩=some (.int .i64 fi)∧W.cell? ⟨A,1,none⟩=some (.int .i64 x)∧W.cell? ⟨w.heap.size,0,none⟩=some (.int .i64 i.o)∧W.cell? ⟨w.heap.size,1,none⟩=some (.int .i64 i.a)∧W.cell? ⟨w.heap.size,2,none⟩=some (.int .i64 i.b)∧W.cell? ⟨b,2,none⟩=some (.int .i64 (s.length:Int)))) (by kernel_rfl) ⟨below_drew (Below.refl _ _),k0,k1,k2,k3,k4,k5⟩ (fun hHeld1=>?_)
  refine tk 0 ?_;simp only [sp]
  refine tk 1 ?_;simp only [sp]
  refine tk 2 ?_;simp only [sp]
  refine tk 3 ?_;simp only [sp]
  refine tk 4 ?_;simp only [sp]
  refine tk 5 ?_;simp only [sp]
  refine rd 6 (fun K hK=>?_)
  go_simp
  go_at_call 73
  refine (HNM.out _ (below_drew (Below.refl _ _))).mono ?_
  rintro e w2 ⟨rfl,hb2⟩
  have HB2:=hide (show Below W1.heap.size W1 w2 from bel_tr (below_drew (Below.refl _ _)) hb2)
  clear hb2
  go_wp2_with fail
  refine hK.out _ _ ⟨HB2.out,HCL.out w2 HB2.out⟩ (fun hHeld8=>?_)
  clear hK K
  try simp only [sp]
  refine rd 7 (fun K hK=>?_)
  go_simp
  go_at_call 70
  refine (require_any _ fi x 11 nb).mono ?_
  rintro e w3 ⟨(⟨hk3,rfl⟩ | ⟨hk3,rfl⟩),hb3⟩
  rotate_left
  · exact ⟨rfl,HERR.out w3 11 (bel_tr HB2.out hb3) (HR.out ▸ lk1 (HNB.out.trans hk3))⟩
  have HB3:=hide (bel_tr HB2.out hb3)
  have HNT:=hide (HNB.out.trans hk3)
  clear hb3 hk3
  go_wp2_with fail
  refine hK.out _ _ ⟨HB3.out,HCL.out w3 HB3.out⟩ (fun hHeld9=>?_)
  clear hK K
  try simp only [sp]
  refine wpAnyH_done (by kernel_rfl) ?_ _
  obtain ⟨m,hm⟩ : ∃ m,takesP p f i=m:=⟨_,rfl⟩
  have HTK:=hide (takes_any (HM.out w3 HB3.out).fl H hf i HNT.out)
  rw [hm] at HTK
  have HMU:=hide hm
  clear hm k0 k1 k2 k3 k4 k5
  obtain ⟨k0,k1,k2,k3,k4,k5⟩:=HCL.out w3 HB3.out
  clear hW1
  go_wp2_with fail
  refine HTK.out.mono ?_
  rintro e w4 ⟨fn,caps,rfl,hfc,hb4⟩
  have HFC:=hide hfc
  have HB4:=hide (bel_tr HB3.out hb4)
  have HZ4:=hide hb4.size
  have HB34:=hide hb4
  clear hfc hb4 k0 k1 k2 k3 k4 k5
  obtain ⟨k0,k1,k2,k3,k4,k5⟩:=HCL.out w4 HB4.out
  obtain ⟨n,hn⟩ : ∃ n,m.n=n:=⟨_,rfl⟩
  rw [hn]
  have HN:=hide hn
  clear hn
  go_upto_region 3 with (fail)
  have hlA4:A<w4.heap.size:=Nat.lt_of_lt_of_le hlA HB4.out.size
  have hlI4:w.heap.size<w4.heap.size:=Nat.lt_of_lt_of_le hlI HB4.out.size
  have hlb4:b<w4.heap.size:=Nat.lt_of_lt_of_le hlb HB4.out.size
  go_cut [] from 30 to 49 (fun wc=>Hid (Below W1.heap.size W1 wc∧Below w4.heap.size w4 wc∧¬ (s.length<n∨(i.o=24∧s.length≠n))))
  case first =>
   have HDP:=hide (show ∀ W:World,Below W1.heap.size W1 W→Calls Tryz.prog 21 #[pp b] W fun e w'=>e=.returned (.int .i64 (s.length:Int))∧w' = W from fun W h=>depth_any (HP.out W h))
   have HSH:=hide (show (s.length<n∨(i.o=24∧s.length≠n))→R=.error 9 from fun h=>by
    rw [← HR.out]
    refine lk2 HNT.out ?_
    rw [HMU.out,HN.out]
    exact h)
   by_cases h1:n≤s.length
   · have z1:decide (n≤s.length)=true:=by simpa using h1
     have z2:decide ((n:Int)≤(s.length:Int))=true:=by simp;omega
     by_cases ho:i.o=24
     · have q1:(i.o != 24)=false:=by simp [ho]
       have HSQ:=hide (show ((s.length:Int) == (n:Int))=false→R=.error 9 from fun h=>HSH.out (.inr ⟨ho,by have:=beq_eq_false_iff_ne.mp h;omega⟩))
       have HSP:=hide (show ((s.length:Int) == (n:Int))=true→¬ (s.length<n∨(i.o=24∧s.length≠n)) from fun h=>by
        have h2:=beq_iff_eq.mp h
        omega)
       clear ho
       generalize hbb:((s.length:Int) == (n:Int))=bb at *
       generalize s.length=sl at *
       refine wp_region_held_drew (S:=(fun W=>Below W1.heap.size W1 W∧W.cell? ⟨A,0,none⟩=some (.int .i64 fi)∧W.cell? ⟨A,1,none⟩=some (.int .i64 x)∧W.cell? ⟨w.heap.size,0,none⟩=some (.int .i64 i.o)∧W.cell? ⟨w.heap.size,1,none⟩=some (.int .i64 i.a)∧W.cell? ⟨w.heap.size,2,none⟩=some (.int .i64 i.b)∧W.cell? ⟨b,2,none⟩=some (.int .i64 (sl:Int)))) (by kernel_rfl) ⟨below_drew HB4.out,k0,k1,k2,k3,k4,k5⟩ (fun hHeld10=>?_)
       refine tk 0 ?_;simp only [sp]
       refine tk 1 ?_;simp only [sp]
       refine tk 2 ?_;simp only [sp]
       refine tk 3 ?_;simp only [sp]
       refine tk 4 ?_;simp only [sp]
       refine tk 6 ?_;simp only [sp]
       refine rd 5 (fun K hK=>?_)
       go_simp
       go_at_call 21
       refine (HDP.out _ (below_drew HB4.out)).mono ?_
       rintro e w5 ⟨rfl,rfl⟩
       go_wp2_with fail
       refine hK.out _ _ ⟨below_drew HB4.out,k0,k1,k2,k3,k4,k5⟩ (fun hHeld17=>?_)
       clear hK K
       try simp only [sp]
       refine tk 7 ?_;simp only [sp]
       refine tk 8 ?_;simp only [sp]
       refine tk 9 ?_;simp only [sp]
       refine tk 10 ?_;simp only [sp]
       refine tk 11 ?_;simp only [sp]
       refine tk 12 ?_;simp only [sp]
       refine tk 13 ?_;simp only [sp]
       refine tk 15 ?_;simp only [sp]
       refine rd 14 (fun K hK=>?_)
       go_simp
       go_at_call 21
       refine (HDP.out _ (below_drew HB4.out)).mono ?_
       rintro e w5 ⟨rfl,rfl⟩
       go_wp2_with fail
       refine hK.out _ _ ⟨below_drew HB4.out,k0,k1,k2,k3,k4,k5⟩ (fun hHeld26=>?_)
       clear hK K
       try simp only [sp]
       refine tk 16 ?_;simp only [sp]
       refine tk 17 ?_;simp only [sp]
       refine tk 18 ?_;simp only [sp]
       refine rd 19 (fun K hK=>?_)
       go_simp
       go_at_call 70
       refine (require_any _ fi x 9 bb).mono ?_
       rintro e w5 ⟨(⟨hk5,rfl⟩ | ⟨hk5,rfl⟩),hb5⟩
       rotate_left
       · exact ⟨rfl,HERR.out w5 9 (bel_tr (below_drew HB4.out) hb5) (HSQ.out hk5)⟩
       have HB5:=hide (bel_tr (below_drew (Below.refl _ w4)) hb5)
       have HK5:=hide hk5
       clear hb5 hk5
       go_wp2_with fail
       refine hK.out _ _ ⟨bel_tr HB4.out HB5.out,HCL.out w5 (bel_tr HB4.out HB5.out)⟩ (fun hHeld30=>?_)
       clear hK K
       try simp only [sp]
       refine wpAnyH_done (by kernel_rfl) ?_ _
       go_wp2
       go_meet
       exact hide ⟨bel_tr HB4.out HB5.out,HB5.out,HSP.out HK5.out⟩
     · have q1:(i.o != 24)=true:=by simpa using ho
       have HSP:=hide (show ¬ (s.length<n∨(i.o=24∧s.length≠n)) from by omega)
       generalize s.length=sl at *
       refine wp_region_held_drew (S:=(fun W=>Below W1.heap.size W1 W∧W.cell? ⟨A,0,none⟩=some (.int .i64 fi)∧W.cell? ⟨A,1,none⟩=some (.int .i64 x)∧W.cell? ⟨w.heap.size,0,none⟩=some (.int .i64 i.o)∧W.cell? ⟨w.heap.size,1,none⟩=some (.int .i64 i.a)∧W.cell? ⟨w.heap.size,2,none⟩=some (.int .i64 i.b)∧W.cell? ⟨b,2,none⟩=some (.int .i64 (sl:Int)))) (by kernel_rfl) ⟨below_drew HB4.out,k0,k1,k2,k3,k4,k5⟩ (fun hHeld31=>?_)
       refine tk 0 ?_;simp only [sp]
       refine tk 1 ?_;simp only [sp]
       refine tk 2 ?_;simp only [sp]
       refine tk 3 ?_;simp only [sp]
       refine tk 4 ?_;simp only [sp]
       refine tk 6 ?_;simp only [sp]
       refine rd 5 (fun K hK=>?_)
       go_simp
       go_at_call 21
       refine (HDP.out _ (below_drew HB4.out)).mono ?_
       rintro e w5 ⟨rfl,rfl⟩
       go_wp2_with fail
       refine hK.out _ _ ⟨below_drew HB4.out,k0,k1,k2,k3,k4,k5⟩ (fun hHeld38=>?_)
       clear hK K
       try simp only [sp]
       refine tk 7 ?_;simp only [sp]
       refine tk 8 ?_;simp only [sp]
       refine tk 9 ?_;simp only [sp]
       refine tk 10 ?_;simp only [sp]
       refine tk 11 ?_;simp only [sp]
       refine tk 12 ?_;simp only [sp]
       refine tn 13 ?_;simp only [sp]
       refine tn 14 ?_;simp only [sp]
       refine tn 15 ?_;simp only [sp]
       refine tn 16 ?_;simp only [sp]
       refine tk 17 ?_;simp only [sp]
       refine tk 18 ?_;simp only [sp]
       refine rd 19 (fun K hK=>?_)
       go_simp
       go_at_call 70
       refine (require_ok _ fi x 9).mono ?_
       rintro e w5 ⟨rfl,hb5⟩
       have HB5:=hide (bel_tr (below_drew (Below.refl _ w4)) hb5)
       clear hb5
       go_wp2_with fail
       refine hK.out _ _ ⟨bel_tr HB4.out HB5.out,HCL.out w5 (bel_tr HB4.out HB5.out)⟩ (fun hHeld51=>?_)
       clear hK K
       try simp only [sp]
       refine wpAnyH_done (by kernel_rfl) ?_ _
       go_wp2
       go_meet
       exact hide ⟨bel_tr HB4.out HB5.out,HB5.out,HSP.out⟩
   · have z1:decide (n≤s.length)=false:=by simpa using h1
     have z2:decide ((n:Int)≤(s.length:Int))=false:=by simp;omega
     have HER:=hide (HSH.out (.inl (by omega)))
     generalize s.length=sl at *
     refine wp_region_held_drew (S:=(fun W=>Below W1.heap.size W1 W∧W.cell? ⟨A,0,none⟩=some (.int .i64 fi)∧W.cell? ⟨A,1,none⟩=some (.int .i64 x)∧W.cell? ⟨w.heap.size,0,none⟩=some (.int .i64 i.o)∧W.cell? ⟨w.heap.size,1,none⟩=some (.int .i64 i.a)∧W.cell? ⟨w.heap.size,2,none⟩=some (.int .i64 i.b)∧W.cell? ⟨b,2,none⟩=some (.int .i64 (sl:Int)))) (by kernel_rfl) ⟨below_drew HB4.out,k0,k1,k2,k3,k4,k5⟩ (fun hHeld52=>?_)
     refine tk 0 ?_;simp only [sp]
     refine tk 1 ?_;simp only [sp]
     refine tk 2 ?_;simp only [sp]
     refine tk 3 ?_;simp only [sp]
     refine tk 4 ?_;simp only [sp]
     refine tk 6 ?_;simp only [sp]
     refine rd 5 (fun K hK=>?_)
     go_simp
     go_at_call 21
     refine (HDP.out _ (below_drew HB4.out)).mono ?_
     rintro e w5 ⟨rfl,rfl⟩
     go_wp2_with fail
     refine hK.out _ _ ⟨below_drew HB4.out,k0,k1,k2,k3,k4,k5⟩ (fun hHeld59=>?_)
     clear hK K
     try simp only [sp]
     refine tk 7 ?_;simp only [sp]
     refine tk 8 ?_;simp only [sp]
     refine tn 9 ?_;simp only [sp]
     refine tn 10 ?_;simp only [sp]
     refine tn 11 ?_;simp only [sp]
     refine tn 12 ?_;simp only [sp]
     refine tn 13 ?_;simp only [sp]
     refine tn 14 ?_;simp only [sp]
     refine tn 15 ?_;simp only [sp]
     refine tn 16 ?_;simp only [sp]
     refine tn 17 ?_;simp only [sp]
     refine tk 18 ?_;simp only [sp]
     refine wpAnyH_ready (rs:=[19]) (by kernel_rfl) (by simp) ?_
     refine AllReadyH.cons (dr rfl) (fun K hK=>?_) AllReadyH.nil
     go_simp
     go_at_call 70
     refine (require_bad _ fi x 9).mono ?_
     rintro e w5 ⟨rfl,hb5⟩
     exact ⟨rfl,HERR.out w5 9 (bel_tr (below_drew HB4.out) hb5) HER.out⟩
  case rest =>
   obtain ⟨hbc,hb4c,hsh⟩:=hcut.out
   clear hcut k0 k1 k2 k3 k4 k5
   have HBC:=hide hbc
   have HB4C:=hide hb4c
   have HSH:=hide hsh
   have hnl:n≤s.length:=by omega
   obtain ⟨ks,hks⟩ : ∃ ks,s.drop (s.length - n)=ks:=⟨_,rfl⟩
   have hkl:ks.length=n:=by rw [← hks,List.length_drop];omega
   have hkk:∀ k∈ks,isKB p.ty.length k=true:=fun k hk=>HK.out k (List.mem_of_mem_drop (hks ▸ hk))
   obtain ⟨Z,U,z1,z2,z3⟩:=HFC.out 0 ks (hkl.trans HN.out.symm) hkk
   have hz3:w3.heap.size≤w4.heap.size:=HZ4.out
   have TKC:Calls Tryz.prog 75 #[.pointer (some ⟨A,0,none⟩),pp b,.int .i64 n,.func (.func fn) #[] caps] wc (TkO fi x m ks Z wc):=by
    have hPZ:PileAt Z wc E b s:=by
     have h1:=(HP.out w3 HB3.out).upto (Nat.le_refl _)
     have h2:=h1.keep (Kp.of_below (bel_tr HB34.out hb4c))
     exact h2.sub fun j _ hj=>.inr (z1 j hj).1
    have h3:=take_in (m:=0) (w:=wc) (A:=A) (E:=E) (b:=b) (s:=s) (fi:=fi) (at_:=x) (Z:=Z) (f:=fn) (caps:=caps) (mu:=m) (U:=U) hnl (hks.symm ▸ z2.up hb4c.size) (z2.st 0 w4 wc z3 (fun j hj=>hb4c.block j hj)) hPZ (by have:=HS.out;omega) ⟨(HCL.out wc hbc).1,(HCL.out wc hbc).2.1⟩ (fun h=>by have:=(z1 A h).1;have:=HB3.out.size;omega)
    rw [hks] at h3
    exact h3.calls FX_room
   have HTC:=hide TKC
   have HZZ:=hide (show ∀ W:World,Kp Z wc W→Below W1.heap.size W1 W from fun W h=>⟨h.os.trans hbc.os,h.tape.trans hbc.tape,h.output.trans hbc.output,Nat.le_trans hbc.size h.size,fun j hj=>(h.block j (Nat.lt_of_lt_of_le hj hbc.size) (fun hz=>by have:=(z1 j hz).1;have:=HB3.out.size;omega)).trans (hbc.block j hj)⟩)
   have HLK:=hide (show m.fine ks=true→LowOk p.ty.length i (ks.head?.getD 0) from fun h=>low_ok (f:=f) (by rw [HMU.out,HN.out];exact hkl) hkk (by rw [HMU.out];exact h))
   have HR3:=hide (show m.fine ks=false→R=.error 8 from fun h=>by
    rw [← HR.out]
    refine lk3 HNT.out ?_ ?_
    · rw [HMU.out,HN.out];exact hsh
    · rw [HMU.out,HN.out,hks];exact h)
   have HR4:=hide (show m.fine ks=true→∀ e,putsP p f i (ks.getLast?.getD 0) (ks.head?.getD 0)=.error e→R=.error e from fun h e he=>by
    rw [← HR.out]
    refine lk4 HNT.out ?_ ?_ ?_
    · rw [HMU.out,HN.out];exact hsh
    · rw [HMU.out,HN.out,hks];exact h
    · rw [HMU.out,HN.out,hks];exact he)
   have HR5:=hide (show m.fine ks=true→∀ l,putsP p f i (ks.getLast?.getD 0) (ks.head?.getD 0)=.ok l→(nextsP i x).all (fun y=>inB y f.co.length)=false→R=.error 10 from fun h l hl h5=>by
    rw [← HR.out]
    refine lk5 HNT.out ?_ ?_ (l:=l) ?_ h5
    · rw [HMU.out,HN.out];exact hsh
    · rw [HMU.out,HN.out,hks];exact h
    · rw [HMU.out,HN.out,hks];exact hl)
   have HR6:=hide (show m.fine ks=true→∀ l,putsP p f i (ks.getLast?.getD 0) (ks.head?.getD 0)=.ok l→(nextsP i x).all (fun y=>inB y f.co.length)=true→R=comesP (s.take (s.length - n)++l) (nextsP i x) { F with mo:=max F.mo (s.take (s.length - n)++l).length } from fun h l hl h5=>by
    rw [← HR.out]
    have:=lk6 (x:=x) (F:=F) (s:=s) HNT.out (by rw [HMU.out,HN.out];exact hsh) (by rw [HMU.out,HN.out,hks];exact h) (l:=l) (by rw [HMU.out,HN.out,hks];exact hl) h5
    rw [HMU.out,HN.out] at this
    exact this)
   have HNL:=hide hnl
   clear hbc hb4c hsh hnl hks hkl hkk z1 z2 z3 hz3 TKC HTK HFC hlA4 hlI4 hlb4
   go_wp2_with fail
   refine HTC.out.mono ?_
   rintro e w5 ⟨(⟨hfi,rfl⟩ | ⟨hfi,rfl⟩),hkp⟩
   rotate_left
   · exact ⟨rfl,HERR.out w5 8 (HZZ.out w5 hkp) (HR3.out hfi)⟩
   have HB5:=hide (HZZ.out w5 hkp)
   have HFI:=hide hfi
   clear hfi hkp HTC
   obtain ⟨top,htop⟩ : ∃ t,ks.getLast?.getD 0=t:=⟨_,rfl⟩
   obtain ⟨low,hlow⟩ : ∃ t,ks.head?.getD 0=t:=⟨_,rfl⟩
   rw [htop,hlow]
   rw [htop,hlow] at HR4 HR5 HR6
   rw [hlow] at HLK
   clear htop hlow
   obtain ⟨k0,k1,k2,k3,k4,k5⟩:=HCL.out w5 HB5.out
   have HXL:=hide (show ∀ W:World,Below W1.heap.size W1 W→∀ j,Xf A ahb wtb j→B≤j∧j<W.heap.size from fun W h j hj=>(HM.out W h).lt hj)
   have HWO:=hide (without_any (w:=w5.drew) ((HP.out w5 HB5.out).keep (Kp.drew _ _)) HNL.out (fun j hj=>(HXL.out w5 HB5.out j hj).2) (by have:=HS.out;omega))
   have hlA5:A<w5.heap.size:=Nat.lt_of_lt_of_le hlA HB5.out.size
   have hlI5:w.heap.size<w5.heap.size:=Nat.lt_of_lt_of_le hlI HB5.out.size
   have hlb5:b<w5.heap.size:=Nat.lt_of_lt_of_le hlb HB5.out.size
   cases hpu:putsP p f i top low with
   | error ee =>
    have HPU:=hide (fun (W:World) (h:Below W1.heap.size W1 W)=>hpu ▸ puts_any (X:=Xf A ahb wtb) (HM.out W h).fl H hf i top low (HXL.out W h) HNT.out (HLK.out HFI.out))
    have HER:=hide (HR4.out HFI.out ee hpu)
    clear hpu
    go_wp2_with fail
    refine wp_region_held_drew (S:=(fun W=>Below W1.heap.size W1 W∧W.cell? ⟨A,0,none⟩=some (.int .i64 fi)∧W.cell? ⟨A,1,none⟩=some (.int .i64 x)∧W.cell? ⟨w.heap.size,0,none⟩=some (.int .i64 i.o)∧W.cell? ⟨w.heap.size,1,none⟩=some (.int .i64 i.a)∧W.cell? ⟨w.heap.size,2,none⟩=some (.int .i64 i.b)∧W.cell? ⟨b,2,none⟩=some (.int .i64 (s.length:Int)))) (by kernel_rfl) ⟨below_drew HB5.out,k0,k1,k2,k3,k4,k5⟩ (fun hHeld72=>?_)
    refine tk 0 ?_;simp only [sp]
    refine tk 1 ?_;simp only [sp]
    refine tk 3 ?_;simp only [sp]
    refine tk 4 ?_;simp only [sp]
    refine tk 5 ?_;simp only [sp]
    refine tk 6 ?_;simp only [sp]
    refine rd 2 (fun K hK=>?_)
    go_simp
    go_at_call 35
    refine HWO.out.mono ?_
    rintro e w6 ⟨b6,rfl,hP6,hb6⟩
    have HB6:=hide (show Below W1.heap.size W1 w6 from bel_tr HB5.out (bel_tr (below_drew (Below.refl _ _)) hb6))
    clear hb6 hP6
    go_wp2_with fail
    refine hK.out _ _ ⟨HB6.out,HCL.out w6 HB6.out⟩ (fun hHeld79=>?_)
    clear hK K
    try simp only [sp]
    refine wpAnyH_ready (rs:=[7]) (by kernel_rfl) (by simp) ?_
    refine AllReadyH.cons (dr rfl) (fun K hK=>?_) AllReadyH.nil
    go_simp
    go_at_call 76
    refine (HPU.out _ HB6.out).mono ?_
    rintro e w7 ⟨hpt,hb7⟩
    have hpt2:e=.panicked (fch fi x ee):=hpt
    subst hpt2
    exact ⟨rfl,HERR.out w7 ee (bel_tr HB6.out hb7) HER.out⟩
   | ok l =>
    have HPU:=hide (fun (W:World) (h:Below W1.heap.size W1 W)=>hpu ▸ puts_any (X:=Xf A ahb wtb) (HM.out W h).fl H hf i top low (HXL.out W h) HNT.out (HLK.out HFI.out))
    have HPK:=hide (puts_kb H hf HNT.out (HLK.out HFI.out) hpu)
    have HPU2:=hide hpu
    clear hpu
    go_wp2_with fail
    refine wp_region_held_drew (S:=(fun W=>Below W1.heap.size W1 W∧W.cell? ⟨A,0,none⟩=some (.int .i64 fi)∧W.cell? ⟨A,1,none⟩=some (.int .i64 x)∧W.cell? ⟨w.heap.size,0,none⟩=some (.int .i64 i.o)∧W.cell? ⟨w.heap.size,1,none⟩=some (.int .i64 i.a)∧W.cell? ⟨w.heap.size,2,none⟩=some (.int .i64 i.b)∧W.cell? ⟨b,2,none⟩=some (.int .i64 (s.length:Int)))) (by kernel_rfl) ⟨below_drew HB5.out,k0,k1,k2,k3,k4,k5⟩ (fun hHeld80=>?_)
    refine tk 0 ?_;simp only [sp]
    refine tk 1 ?_;simp only [sp]
    refine tk 3 ?_;simp only [sp]
    refine tk 4 ?_;simp only [sp]
    refine tk 5 ?_;simp only [sp]
    refine tk 6 ?_;simp only [sp]
    refine rd 2 (fun K hK=>?_)
    go_simp
    go_at_call 35
    refine HWO.out.mono ?_
    rintro e w6 ⟨b6,rfl,hP6,hb6⟩
    have HB6:=hide (show Below W1.heap.size W1 w6 from bel_tr HB5.out (bel_tr (below_drew (Below.refl _ _)) hb6))
    have HP6:=hide hP6
    clear hb6 hP6
    go_wp2_with fail
    refine hK.out _ _ ⟨HB6.out,HCL.out w6 HB6.out⟩ (fun hHeld87=>?_)
    clear hK K
    try simp only [sp]
    refine rd 7 (fun K hK=>?_)
    go_simp
    go_at_call 76
    refine (HPU.out _ HB6.out).mono ?_
    rintro e w7 ⟨⟨v7,rfl,hI7⟩,hb7⟩
    have HB7:=hide (bel_tr HB6.out hb7)
    have HP7:=hide (HP6.out.keep (Kp.of_below hb7))
    have HI7:=hide hI7
    clear hb7 hI7
    go_wp2_with fail
    refine hK.out _ _ ⟨HB7.out,HCL.out w7 HB7.out⟩ (fun hHeld88=>?_)
    clear hK K
    try simp only [sp]
    refine rd 8 (fun K hK=>?_)
    go_simp
    go_at_call 34
    refine (with_any HP7.out HI7.out (fun j hj=>(HXL.out w7 HB7.out j hj).2) (by have:=HPK.out.2;have:=HS.out;rw [List.length_take];omega)).mono ?_
    rintro e w8 ⟨b8,rfl,hP8,hb8⟩
    have HB8:=hide (bel_tr HB7.out hb8)
    have HP8:=hide hP8
    clear hb8 hP8
    go_wp2_with fail
    refine hK.out _ _ ⟨HB8.out,HCL.out w8 HB8.out⟩ (fun hHeld89=>?_)
    clear hK K
    try simp only [sp]
    refine tk 9 ?_;simp only [sp]
    refine wpAnyH_done (by kernel_rfl) ?_ _
    obtain ⟨bh,hbh⟩ : ∃ bh,s.take (s.length - n)++l=bh:=⟨_,rfl⟩
    rw [hbh] at HP8
    have HR7:=hide (fun h5=>hbh ▸ HR6.out HFI.out l HPU2.out h5)
    have HR8:=hide (fun h5=>HR5.out HFI.out l HPU2.out h5)
    have HBL:=hide (show bh.length≤1000000000000+4096 from by
     have:=HPK.out.2
     have:=HS.out
     rw [← hbh,List.length_append,List.length_take]
     omega)
    have M8:=HM.out w8 HB8.out
    have a13:w8.cell? ⟨A,13,none⟩=some (.int .i64 (F.mo:Int)):=cell_of M8.fl.box rfl
    have ab:w8.cell? ⟨b8,2,none⟩=some (.int .i64 (bh.length:Int)):=HP8.out.dep
    have afz:w8.frozen? ⟨A,13,none⟩=false:=by simp [World.frozen?,M8.fl.box,flO]
    have hlA8:A<w8.heap.size:=(M8.lt (.inl rfl)).2
    have hlb8:b8<w8.heap.size:=HP8.out.lt
    have HM8:=hide M8
    clear hbh M8 k0 k1 k2 k3 k4 k5 hlA5 hlI5 hlb5
    clear HPU HR3 HR4 HR5 HR6 HLK HWO HP6 HP7 HI7 HNM
    have hmx:max (F.mo:Int) (bh.length:Int)=((max F.mo bh.length:Nat):Int):=by omega
    have HDP8:=hide (show Calls Tryz.prog 21 #[pp b8] w8.drew fun e w'=>e=.returned (.int .i64 (bh.length:Int))∧w' = w8.drew from depth_any (HP8.out.keep (Kp.drew _ _)))
    have HMX:=hide hmx
    clear hmx
    go_upto_region 6 with (fail)
    go_cut [] from 67 to 76 (fun wc=>Hid (wc=w8.drew.setCell ⟨A,13,none⟩ (.int .i64 ((max F.mo bh.length:Nat):Int))))
    case first =>
     refine wp_region_held_drew (S:=(fun W=>W.cell? ⟨A,0,none⟩=some (.int .i64 fi))) (by kernel_rfl) (HCL.out w8 HB8.out).1 (fun hHeld91=>?_)
     refine tk 0 ?_;simp only [sp]
     refine tk 1 ?_;simp only [sp]
     refine tk 2 ?_;simp only [sp]
     refine tk 3 ?_;simp only [sp]
     refine tk 5 ?_;simp only [sp]
     refine wpAnyH_ready (rs:=[4,6]) (by kernel_rfl) (by simp) ?_
     refine AllReadyH.cons (dr rfl) (fun K hK=>?_) (AllReadyH.cons (dr rfl) (fun K hK=>?_) AllReadyH.nil)
     · skip
       go_simp
       go_wp2_with fail
       refine hK.out _ _ (HCL.out w8 HB8.out).1 (fun hHeld97=>?_)
       clear hK K
       try simp only [sp]
       refine rd 6 (fun K hK=>?_)
       go_simp
       go_at_call 21
       refine HDP8.out.mono ?_
       rintro e w9 ⟨rfl,rfl⟩
       go_wp2_with fail
       refine hK.out _ _ (HCL.out w8 HB8.out).1 (fun hHeld98=>?_)
       clear hK K
       try simp only [sp]
       refine tk 7 ?_;simp only [sp]
       refine tk 8 ?_;simp only [sp]
       refine tk 9 ?_;simp only [sp]
       rw [HMX.out]
       refine rd 10 (fun K hK=>?_)
       go_simp
       go_wp2_with fail
       refine hK.out _ _ (by exact (cell_of (heap_setCell_same _ A 13 _ HM8.out.fl.box) rfl)) (fun hHeld102=>?_)
       clear hK K
       try simp only [sp]
       refine wpAnyH_done (by kernel_rfl) ?_ _
       go_wp2_with fail
       go_meet
       exact hide rfl
     · skip
       go_simp
       go_at_call 21
       refine HDP8.out.mono ?_
       rintro e w9 ⟨rfl,rfl⟩
       go_wp2_with fail
       refine hK.out _ _ (HCL.out w8 HB8.out).1 (fun hHeld103=>?_)
       clear hK K
       try simp only [sp]
       refine rd 4 (fun K hK=>?_)
       go_simp
       go_wp2_with fail
       refine hK.out _ _ (HCL.out w8 HB8.out).1 (fun hHeld104=>?_)
       clear hK K
       try simp only [sp]
       refine tk 7 ?_;simp only [sp]
       refine tk 8 ?_;simp only [sp]
       refine tk 9 ?_;simp only [sp]
       rw [HMX.out]
       refine rd 10 (fun K hK=>?_)
       go_simp
       go_wp2_with fail
       refine hK.out _ _ (by exact (cell_of (heap_setCell_same _ A 13 _ HM8.out.fl.box) rfl)) (fun hHeld108=>?_)
       clear hK K
       try simp only [sp]
       refine wpAnyH_done (by kernel_rfl) ?_ _
       go_wp2_with fail
       go_meet
       exact hide rfl
    case rest =>
    obtain rfl:=hcut.out
    clear hcut
    generalize hW9:w8.drew.setCell ⟨A,13,none⟩ (.int .i64 ((max F.mo bh.length:Nat):Int))=W9
    have K89:Kp (Xf A ahb wtb) w8 W9:=by
     rw [← hW9]
     exact (Kp.drew _ _).trans (Kp.set (.inl rfl) rfl)
    have M9:FlM B E A ahb wtb W9 p f V fi x { F with mo:=max F.mo bh.length }:=by
     rw [← hW9]
     exact (HM8.out.below (below_drew (Below.refl _ _))).most rfl
    have P9:PileAt (Xf A ahb wtb) W9 E b8 bh:=HP8.out.keep K89
    have HK9:=hide (show Kp (Xf A ahb wtb) w W9 from (Kp.of_below (bel_tr HB.out HB8.out)).trans K89)
    have hI9:W9.heap[w.heap.size]?=w8.heap[w.heap.size]?:=K89.block _ (Nat.lt_of_lt_of_le hlI HB8.out.size) (fun h=>by
     obtain ⟨h1,h2⟩:=HXB.out _ h
     omega)
    have k2:W9.cell? ⟨w.heap.size,0,none⟩=some (.int .i64 i.o):=(World.cell?_of_block (a:=⟨w.heap.size,0,none⟩) hI9).trans (HCL.out w8 HB8.out).2.2.1
    have k3:W9.cell? ⟨w.heap.size,1,none⟩=some (.int .i64 i.a):=(World.cell?_of_block (a:=⟨w.heap.size,1,none⟩) hI9).trans (HCL.out w8 HB8.out).2.2.2.1
    have k4:W9.cell? ⟨w.heap.size,2,none⟩=some (.int .i64 i.b):=(World.cell?_of_block (a:=⟨w.heap.size,2,none⟩) hI9).trans (HCL.out w8 HB8.out).2.2.2.2.1
    have HM9:=hide M9
    have HP9:=hide P9
    have HNX:=hide (nexts_any M9.fl (by have:=hx;have:=M9.nc;omega) i)
    have HERR2:=hide (show ∀ (W:World) (e:Int),Kp (Xf A ahb wtb) w W→R=.error e→CoO B E A ahb wtb p f V fi x R w (.panicked (fch fi x e)) W from fun W e h hr=>by
     rw [hr]
     exact ⟨rfl,h⟩)
    clear hW9 K89 M9 P9 hI9 a13 ab afz hlA8 hlb8 HM8 HP8
    obtain ⟨nx,hnx⟩ : ∃ nx,nextsP i x=nx:=⟨_,rfl⟩
    rw [hnx] at HNX HR7 HR8
    have HNN:=hide (show nx.length≤2 from by rw [← hnx];unfold nextsP;split;simp;split;simp;split <;> simp)
    clear hnx
    go_wp2_with fail
    refine HNX.out.mono ?_
    rintro e w10 ⟨v10,rfl,hI10,hb10⟩
    have HB10:=hide hb10
    have HM10:=hide (HM9.out.below hb10)
    have HP10:=hide (HP9.out.keep (Kp.of_below hb10))
    have HK10:=hide (HK9.out.trans (Kp.of_below hb10))
    obtain ⟨na,nc,rfl,_,_,hel⟩:=hI10
    have HEL:=hide hel
    clear hb10 hel k2 k3 k4 HNX HM9 HP9
    obtain ⟨cn,hcn⟩ : ∃ cn,f.co.length=cn:=⟨_,rfl⟩
    rw [hcn] at HR7 HR8 hx
    have HCN:=hide hcn
    clear hcn
    go_wp2
    go_loopw [82] (fun a wr=>LpA nx cn w10 a wr) (fun a _=>nx.length - (intOf a).toNat)
    case atStart=>exact ⟨0,rfl,Nat.zero_le _,rfl,Below.refl _ _⟩
    case round =>
     obtain ⟨j,rfl,hj,hall,hb⟩:=hrel
     have HAL:=hide hall
     have HBW:=hide hb
     clear hall hb
     by_cases hlt:j<nx.length
     · obtain ⟨y,hy⟩ : ∃ y,nx[j]?=some y:=⟨nx[j],by simp [hlt]⟩
       obtain ⟨g,o,rfl,hg,_,hc0⟩:=HEL.out j y hy
       have hc:wr.cell? ⟨g,o+j,none⟩=some (.int .i64 y):=(HBW.out.cell (p:=⟨g,o+j,none⟩) hg).trans hc0
       have hgw:g<wr.heap.size:=Nat.lt_of_lt_of_le hg HBW.out.size
       have MW:=HM10.out.below HBW.out
       have a0:wr.cell? ⟨A,0,none⟩=some (.int .i64 fi):=cell_of MW.fl.box rfl
       have a1:wr.cell? ⟨A,1,none⟩=some (.int .i64 x):=cell_of MW.fl.box rfl
       have a10:wr.cell? ⟨A,10,none⟩=some V.u4:=cell_of MW.fl.box rfl
       obtain ⟨ua,uc,hu⟩:=sl_form MW.fl.co
       rw [hu,HCN.out] at a10
       have hlAw:A<wr.heap.size:=(MW.lt (.inl rfl)).2
       have d1:decide (j<nx.length)=true:=by simpa using hlt
       have d2:(j:Int)≤2:=by have:=HNN.out;omega
       have HBAD:=hide (show inB y cn=false→R=.error 10 from fun h=>HR8.out (all_bad (s:=fun y=>inB y cn) hy h))
       have HY:=hide hy
       have HCL2:=hide (show ∀ W:World,Below wr.heap.size wr W→W.cell? ⟨A,0,none⟩=some (.int .i64 fi)∧W.cell? ⟨A,1,none⟩=some (.int .i64 x)∧W.cell? ⟨A,10,none⟩=some (.slice ua cn uc) from fun W h=>⟨(h.cell (p:=⟨A,0,none⟩) hlAw).trans a0,(h.cell (p:=⟨A,1,none⟩) hlAw).trans a1,(h.cell (p:=⟨A,10,none⟩) hlAw).trans a10⟩)
       clear hc0 hy hg MW hu
       obtain ⟨bb,hbb⟩ : ∃ bb,inB y cn=bb:=⟨_,rfl⟩
       have HW:=hide (fun W:World=>within_any W y cn)
       rw [hbb] at HW HBAD
       have HBB:=hide hbb
       clear hbb
       generalize hl2:nx.length=nl at *
       have HLL:=hide hl2
       clear hl2
       go_wp2_with fail
       refine wp_region_held_drew (S:=(fun W=>W.cell? ⟨A,0,none⟩=some (.int .i64 fi)∧W.cell? ⟨A,1,none⟩=some (.int .i64 x)∧W.cell? ⟨A,10,none⟩=some (.slice ua cn uc))) (by kernel_rfl) ⟨a0,a1,a10⟩ (fun hHeld109=>?_)
       refine tk 0 ?_;simp only [sp]
       refine tk 1 ?_;simp only [sp]
       refine tk 2 ?_;simp only [sp]
       refine tk 3 ?_;simp only [sp]
       refine tk 4 ?_;simp only [sp]
       refine tk 5 ?_;simp only [sp]
       refine tk 6 ?_;simp only [sp]
       refine tk 7 ?_;simp only [sp]
       refine tk 8 ?_;simp only [sp]
       refine tk 9 ?_;simp only [sp]
       refine tk 10 ?_;simp only [sp]
       refine rd 11 (fun K hK=>?_)
       go_simp
       go_at_call 32
       refine (HW.out _).mono ?_
       rintro e w11 ⟨rfl,rfl⟩
       go_wp2_with fail
       refine hK.out _ _ (HCL2.out _ (below_drew (Below.refl _ _))) (fun hHeld121=>?_)
       clear hK K
       try simp only [sp]
       refine rd 12 (fun K hK=>?_)
       go_simp
       go_at_call 70
       refine (require_any _ fi x 10 bb).mono ?_
       rintro e w12 ⟨(⟨hk12,rfl⟩ | ⟨hk12,rfl⟩),hb12⟩
       rotate_left
       · exact ⟨rfl,HERR2.out w12 10 (HK10.out.trans (Kp.of_below (bel_tr HBW.out (bel_tr (below_drew (Below.refl _ _)) hb12)))) (HBAD.out hk12)⟩
       have HB12:=hide (show Below wr.heap.size wr w12 from bel_tr (below_drew (Below.refl _ _)) hb12)
       have HK12:=hide hk12
       clear hb12 hk12
       go_wp2_with fail
       refine hK.out _ _ (HCL2.out w12 HB12.out) (fun hHeld122=>?_)
       clear hK K
       try simp only [sp]
       refine wpAnyH_done (by kernel_rfl) ?_ _
       go_wp2
       go_roundw
       case rel=>exact ⟨j+1,by first | exact num_next hlt (by have:=HNN.out;omega) | go_num,by rw [HLL.out];exact hlt,all_next (s:=fun y=>inB y cn) HY.out HAL.out (HBB.out.trans HK12.out),bel_tr HBW.out HB12.out⟩
       case measure=>first | exact meas_int hlt (by have:=HNN.out;omega) | (rw [intOf_int,intOf_int];omega)
     · obtain rfl:nx.length=j:=by omega
       have d1:decide (nx.length<nx.length)=false:=by simp
       have HRR:=hide (HR7.out (show (nx.all fun y=>inB y cn)=true from by have:=HAL.out;rwa [List.take_length] at this))
       have HALL:=hide (show ∀ y∈nx,inB y cn=true from by have:=HAL.out;rw [List.take_length,List.all_eq_true] at this;exact this)
       have HM11:=hide (HM10.out.below HBW.out)
       have HP11:=hide (HP10.out.keep (Kp.of_below HBW.out))
       have HK11:=hide (HK10.out.trans (Kp.of_below HBW.out))
       have HNF:=hide (show ∀ (W:World),Kp (Xf A ahb wtb) wr W→∀ (j:Nat) (y:Int),nx[j]?=some y→∃ g o,na=some ⟨g,o,none⟩∧g<W.heap.size∧W.cell? ⟨g,o+j,none⟩=some (.int .i64 y) from fun W h j y hy=>by
        obtain ⟨g,o,h1,hg,hgn,h2⟩:=HEL.out j y hy
        have hgw:g<wr.heap.size:=Nat.lt_of_lt_of_le hg HBW.out.size
        refine ⟨g,o,h1,Nat.lt_of_lt_of_le hgw h.size,?_⟩
        rw [World.cell?_of_block (a:=⟨g,o+j,none⟩) (h.block g hgw (fun hx=>by
         have h3:B≤g∧g<w.heap.size:=HXB.out g hx
         have h4:=HK9.out.size
         omega))]
        exact (HBW.out.cell (p:=⟨g,o+j,none⟩) hg).trans h2)
       clear HAL HBW HEL HR7 HR8 HM10 HP10 HK10
       generalize hl2:nx.length=nl at *
       have HLL:=hide hl2
       clear hl2
       go_wp2
       go_loopw [102] (fun a wr'=>LpB B E A ahb wtb p f V fi x bh nx { F with mo:=max F.mo bh.length } wr a wr') (fun a _=>nl - (intOf a).toNat)
       case atStart=>exact ⟨0,_,rfl,Nat.zero_le _,rfl,HM11.out,Kp.refl _ _,hah⟩
       case round =>
        obtain ⟨j,G,rfl,hj,hco,hM,hKp,hGl⟩:=hrel
        rename_i wr0 _
        have HCO:=hide hco
        have HMG:=hide hM
        have HKG:=hide hKp
        have HGL:=hide hGl
        rw [HLL.out] at hj
        clear hco hM hKp hGl
        by_cases hlt:j<nl
        · obtain ⟨y,hy⟩ : ∃ y,nx[j]?=some y:=⟨nx[j]'(by rw [HLL.out];exact hlt),by simp⟩
          obtain ⟨g,o,rfl,hgw,hc⟩:=HNF.out _ HKG.out j y hy
          obtain ⟨yn,hyn,hyl⟩:=in_nat (HALL.out y (List.mem_of_getElem? hy))
          subst hyn
          have d1:decide (j<nl)=true:=by simpa using hlt
          have d2:(j:Int)≤2:=by have:=HNN.out;omega
          have HDR:=hide (show nx.drop j=(yn:Int) :: nx.drop (j+1) from by rw [List.drop_eq_getElem_cons (by rw [HLL.out];exact hlt)];congr 1;exact (List.getElem?_eq_some_iff.mp hy).2)
          have HCC:=hide (come_any HMG.out (x:=yn) (by rw [HCN.out];exact hyl) (HP11.out.keep HKG.out) (by have:=HBL.out;omega) HGL.out)
          have HRJ:=hide (show R=match comeP G yn bh with
            | .ok G'=>comesP bh (nx.drop (j+1)) G'
            | .error e=>.error e from by rw [HRR.out,HCO.out,HDR.out];rfl)
          clear hy hyl
          cases hcp:comeP G yn bh with
          | error ee =>
           rw [hcp] at HCC HRJ
           go_wp2_with fail
           refine HCC.out.mono ?_
           rintro e w13 ⟨h13,hk13⟩
           have h14:e=.panicked (fch fi x ee):=h13
           subst h14
           exact ⟨rfl,HERR2.out w13 ee ((HK11.out.trans HKG.out).trans hk13) HRJ.out⟩
          | ok G' =>
           rw [hcp] at HCC HRJ
           have HGL2:=hide (comeP_len hcp (by have:=HBL.out;omega) HGL.out)
           go_wp2_with fail
           refine HCC.out.mono ?_
           rintro e w13 ⟨⟨⟨v13,rfl⟩,hM13⟩,hk13⟩
           have HM13:=hide hM13
           have HK13:=hide hk13
           clear hM13 hk13
           go_wp2
           go_roundw
           case rel=>exact ⟨j+1,G',by first | exact num_next hlt (by have:=HNN.out;omega) | go_num,by rw [HLL.out];exact hlt,HRR.out.symm.trans HRJ.out,HM13.out,HKG.out.trans HK13.out,HGL2.out⟩
           case measure=>first | exact meas_int hlt (by have:=HNN.out;omega) | (rw [intOf_int,intOf_int];omega)
        · obtain rfl:nl=j:=by omega
          have d1:decide (nl<nl)=false:=by simp
          have HF:=hide (show R=.ok G from by rw [HRR.out,HCO.out,← HLL.out,List.drop_length];rfl)
          go_wp2
          go_returns
          rw [HF.out]
          exact ⟨⟨⟨_,rfl⟩,HMG.out⟩,HK11.out.trans HKG.out⟩
end
end Go.Proofs.YtkdojpnihinpbaaGreatDoor
