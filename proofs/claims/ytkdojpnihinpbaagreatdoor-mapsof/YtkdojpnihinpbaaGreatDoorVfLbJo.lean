/- The document's Look: what it lays ahead of its loop. -/
import Derived.Test.YtkdojpnihinpbaaGreatDoorVfRtJo
import Derived.Deep.CutRange
import Derived.Test.YtkdojpnihinpbaaGreatDoorVfTkJo
namespace Go.Proofs.YtkdojpnihinpbaaGreatDoor
open Go.RowKit
structure L3 (Wb X:World) (L:Nat) (c s o:Option Nat):Prop where
  bel:Below Wb.heap.size Wb X
  hc:∀ x,c=some x→Wb.heap.size≤x∧X.heap[x]?=some (.cells (List.replicate L (Value.bool false)).toArray 4 (0,0))
  hs:∀ x,s=some x→Wb.heap.size≤x∧X.heap[x]?=some (.cells (List.replicate L (Value.slice none 0 0)).toArray 37 (0,0))
  ho:∀ x,o=some x→Wb.heap.size≤x∧X.heap[x]?=some (.cells #[.slice none 0 0,.slice none 0 0,.int .i64 0] 55 (0,0))
  d1:∀ x y,c=some x→s=some y→x≠y
  d2:∀ x y,c=some x→o=some y→x≠y
  d3:∀ x y,s=some x→o=some y→x≠y
section
variable {Wb X:World} {L:Nat} {c s o:Option Nat}
theorem L3.begin' : L3 Wb Wb.drew L none none none:=⟨below_drew (Below.refl _ _),fun _ h=>(by cases h),fun _ h=>(by cases h),fun _ h=>(by cases h),fun _ _ h=>(by cases h),fun _ _ h=>(by cases h),fun _ _ h=>by cases h⟩
theorem L3.cm (R:L3 Wb X L none s o):L3 Wb (X.alloc (.cells (List.replicate L (Value.bool false)).toArray 4)) L (some X.heap.size) s o :=
  ⟨R.bel.alloc R.bel.size _,fun x h=>by cases h;exact ⟨R.bel.size,heap_new _ _ rfl⟩,fun x h=>⟨(R.hs x h).1,al_old _ _ (R.hs x h).2⟩,fun x h=>⟨(R.ho x h).1,al_old _ _ (R.ho x h).2⟩,fun x y h g e=>by cases h;have:=lt_of_block (R.hs y g).2;omega,fun x y h g e=>by cases h;have:=lt_of_block (R.ho y g).2;omega,R.d3⟩
theorem L3.st (R:L3 Wb X L c none o):L3 Wb (X.alloc (.cells (List.replicate L (Value.slice none 0 0)).toArray 37)) L c (some X.heap.size) o :=
  ⟨R.bel.alloc R.bel.size _,fun x h=>⟨(R.hc x h).1,al_old _ _ (R.hc x h).2⟩,fun x h=>by cases h;exact ⟨R.bel.size,heap_new _ _ rfl⟩,fun x h=>⟨(R.ho x h).1,al_old _ _ (R.ho x h).2⟩,fun x y h g e=>by cases g;have:=lt_of_block (R.hc x h).2;omega,R.d2,fun x y h g e=>by cases h;have:=lt_of_block (R.ho y g).2;omega⟩
theorem L3.ou (R:L3 Wb X L c s none):L3 Wb (X.alloc (.cells #[.slice none 0 0,.slice none 0 0,.int .i64 0] 55)) L c s (some X.heap.size) :=
  ⟨R.bel.alloc R.bel.size _,fun x h=>⟨(R.hc x h).1,al_old _ _ (R.hc x h).2⟩,fun x h=>⟨(R.hs x h).1,al_old _ _ (R.hs x h).2⟩,fun x h=>by cases h;exact ⟨R.bel.size,heap_new _ _ rfl⟩,R.d1,fun x y h g e=>by cases g;have:=lt_of_block (R.hc x h).2;omega,fun x y h g e=>by cases g;have:=lt_of_block (R.hs x h).2;omega⟩
end
theorem frz {W:World} {b:Nat} {c:Array Value} {t:Nat} (h:W.heap[b]?=some (.cells c t (0,0))) (o:Nat):W.frozen? ⟨b,o,none⟩=false:=by simp [World.frozen?,h]
def L3O (Wb:World) (L cb sb ob:Nat) (W:World):Prop:=Below Wb.heap.size Wb W∧W.heap[cb]?=some (.cells (List.replicate L (Value.bool false)).toArray 4 (0,0))∧W.heap[sb]?=some (.cells (List.replicate L (Value.slice none 0 0)).toArray 37 (0,0))∧W.heap[ob]?=some (.cells #[.slice (some ⟨cb,0,none⟩) L L,.slice (some ⟨sb,0,none⟩) L L,.int .i64 0] 55 (0,0))∧Wb.heap.size≤cb∧Wb.heap.size≤sb∧Wb.heap.size≤ob∧cb≠sb∧cb≠ob∧sb≠ob
theorem L3.fin {Wb X:World} {L cb sb ob:Nat} (R:L3 Wb X L (some cb) (some sb) (some ob)):L3O Wb L cb sb ob (((X.setCell ⟨ob,0,none⟩ (.slice (some ⟨cb,0,none⟩) L L)).setCell ⟨ob,1,none⟩ (.slice (some ⟨sb,0,none⟩) L L)).setCell ⟨ob,2,none⟩ (.int .i64 0))∧ob<X.heap.size∧(∀ k,k<3→∃ u,X.cell? ⟨ob,k,none⟩=some u)∧X.heap[ob]?=some (.cells #[.slice none 0 0,.slice none 0 0,.int .i64 0] 55 (0,0)):=by
 obtain ⟨h1,h2⟩:=R.hc cb rfl
 obtain ⟨h3,h4⟩:=R.hs sb rfl
 obtain ⟨h5,h6⟩:=R.ho ob rfl
 have n2:=R.d2 cb ob rfl rfl
 have n3:=R.d3 sb ob rfl rfl
 refine ⟨⟨((R.bel.setCell (by exact h5) _).setCell (by exact h5) _).setCell (by exact h5) _,(set_ne _ _ n2).trans ((set_ne _ _ n2).trans ((set_ne _ _ n2).trans h2)),(set_ne _ _ n3).trans ((set_ne _ _ n3).trans ((set_ne _ _ n3).trans h4)),?_,h1,h3,h5,R.d1 cb sb rfl rfl,n2,n3⟩,lt_of_block h6,fun k hk=>?_,h6⟩
 · rw [heap_setCell_same _ ob 2 _ (heap_setCell_same _ ob 1 _ (heap_setCell_same _ ob 0 _ h6))]
   rfl
 · match k,hk with
   | 0,_=>exact ⟨_,cell_of h6 rfl⟩
   | 1,_=>exact ⟨_,cell_of h6 rfl⟩
   | 2,_=>exact ⟨_,cell_of h6 rfl⟩
def LkI (p:Pg) (f:Fd) (w:World) (cb sb ob lb L:Nat) (pv fv:Array Value) (wr:World):Prop:=∃ F lk k j,LkM w cb sb ob lb L pv fv F lk wr∧runP p f k F=followP p f∧MM F+1≤k∧FInv p f j F∧j+k≤L+1
def LkO (p:Pg) (f:Fd) (w:World) (e:Ending) (W:World):Prop:=Below w.heap.size w W∧((∃ (x:Nat) (c:Int) (cb sb L m:Nat),followP p f=.error (x,c)∧e=.returned (.tuple #[.agg #[.slice (some ⟨cb,0,none⟩) L L,.slice (some ⟨sb,0,none⟩) L L,.int .i64 (m:Int)],.int .i64 (x:Int),.int .i64 c]))∨∃ (F:Fl) (cb sb:Nat),followP p f=.ok F∧e=.returned (.tuple #[.agg #[.slice (some ⟨cb,0,none⟩) f.co.length f.co.length,.slice (some ⟨sb,0,none⟩) f.co.length f.co.length,.int .i64 (F.mo:Int)],.int .i64 0,.int .i64 0])∧F.ah.length=f.co.length∧W.heap[cb]?=some (.cells (cvs F.ah).toArray 4 (0,0))∧∃ (scs:List Value) (X:Nat→Prop),W.heap[sb]?=some (.cells scs.toArray 37 (0,0))∧scs.length=f.co.length∧∀ (x:Nat) (o:Option (List Int)),F.ah[x]?=some o→∃ c,scs[x]?=some c∧StK X W o c)
theorem LkM.ret {w:World} {cb sb ob lb L:Nat} {pv fv:Array Value} {F:Fl} {lk:List Bool} {W:World} (M:LkM w cb sb ob lb L pv fv F lk W) (a b c:Value):∀ WF,((W.setCell ⟨w.heap.size+1,0,none⟩ a).setCell ⟨w.heap.size+1,1,none⟩ b).setCell ⟨w.heap.size+1,2,none⟩ c=WF→WF.cell? ⟨w.heap.size+1,0,none⟩=some a∧WF.cell? ⟨w.heap.size+1,1,none⟩=some b∧WF.cell? ⟨w.heap.size+1,2,none⟩=some c∧Below w.heap.size w WF∧Kp (XL cb sb ob lb (w.heap.size+1)) W WF∧(∀ j,j≠w.heap.size+1→WF.heap[j]?=W.heap[j]?):=by
 intro WF hWF
 have e:=heap_setCell_same _ (w.heap.size+1) 2 c (heap_setCell_same _ (w.heap.size+1) 1 b (heap_setCell_same W (w.heap.size+1) 0 a M.res))
 rw [hWF] at e
 have hk:Kp (XL cb sb ob lb (w.heap.size+1)) W WF:=by
  rw [← hWF]
  exact ((sc_kp W _ _ (.inr (.inr (.inr (.inr rfl))))).trans (sc_kp _ _ _ (.inr (.inr (.inr (.inr rfl)))))).trans (sc_kp _ _ _ (.inr (.inr (.inr (.inr rfl)))))
 refine ⟨cell_of e rfl,cell_of e rfl,cell_of e rfl,?_,hk,fun j hj=>by rw [← hWF];exact (set_ne _ _ hj).trans ((set_ne _ _ hj).trans (set_ne _ _ hj))⟩
 rw [← hWF]
 exact ((M.bel.setCell (by show w.heap.size≤w.heap.size+1;omega) _).setCell (by show w.heap.size≤w.heap.size+1;omega) _).setCell (by show w.heap.size≤w.heap.size+1;omega) _
theorem least_at:∀ {l:List Bool} {x:Nat},(∀ k,k<x→l[k]?=some false)→l[x]?=some true→leastP l=some x
  | b :: r,0,_,h=>by
   cases b with
   | true=>rfl
   | false=>cases h
  | b :: r,x+1,h1,h2=>by
   have hb:=h1 0 (by omega)
   cases hb
   have:=least_at (l:=r) (x:=x) (fun k hk=>h1 (k+1) (by omega)) h2
   simp [leastP,this]
theorem least_all:∀ {l:List Bool},(∀ k,k<l.length→l[k]?=some false)→leastP l=none
  | [],_=>rfl
  | b :: r,h=>by
   have hb:=h 0 (by simp)
   cases hb
   have:=least_all (l:=r) (fun k hk=>h (k+1) (by simp;omega))
   simp [leastP,this]
theorem ins_atE {B:Nat} {w:World} {v:Value} {l:List In3} (R:SlAt 3 InsP B w v l) {t:Nat} {x:In3} (hx:l[t]?=some x):∃ g o c,v=.slice (some ⟨g,o,none⟩) l.length c∧g<B∧w.cell? ⟨g,o+t*3,none⟩=some (.int .i64 x.o)∧w.cell? ⟨g,o+t*3+1,none⟩=some (.int .i64 x.a)∧w.cell? ⟨g,o+t*3+2,none⟩=some (.int .i64 x.b)∧(-9223372036854775808≤x.o∧x.o≤9223372036854775807)∧(-9223372036854775808≤x.a∧x.a≤9223372036854775807)∧(-9223372036854775808≤x.b∧x.b≤9223372036854775807):=by
 obtain ⟨ao,cap,rfl,_,hel⟩:=R
 obtain ⟨g,o,cs,rfl,h2,h3,rfl,b1,b2,b3⟩:=hel t x hx
 exact ⟨g,o,cap,rfl,h2,by have:=h3 0 _ rfl;rwa [Nat.add_zero] at this,h3 1 _ rfl,h3 2 _ rfl,b1,b2,b3⟩
def LnR (q:Int→Bool) (l:List Int) (W:World) (a:Value) (wr:World):Prop:=∃ j:Nat,a=.int .i64 j∧j≤l.length∧(l.take j).all q=true∧wr=W
def LfR (wt:List Bool) (L:Nat) (W:World) (a:Value) (wr:World):Prop:=∃ j:Nat,a=.int .i64 j∧j≤L∧(∀ k,k<j→wt[k]?=some false)∧wr=W
theorem IsAt.sl0 {X:Nat→Prop} {W:World} {v:Value} {s:List Int} (h:IsAt X W v s) (hb:Bd s):SlAt 1 IntP W.heap.size W v s:=by
 obtain ⟨ao,cap,h1,h2,h3,h4⟩:=h
 refine ⟨ao,cap,h1,⟨by unfold maxLen at h3;omega,h2,h3⟩,fun j x hx=>?_⟩
 obtain ⟨g,o,e1,e2,_,e4⟩:=h4 j x hx
 refine ⟨g,o,[.int .i64 x],e1,e2,fun r u hr=>?_,rfl,hb x (List.mem_of_getElem? hx)⟩
 match r,hr with
 | 0,hr=>cases hr;rw [Nat.mul_one,Nat.add_zero];exact e4
def CmR (w:World) (cb sb ob lb L:Nat) (pv fv:Array Value) (l ns:List Int) (F0:Fl) (lk:List Bool) (W:World) (a:Value) (wr:World):Prop:=∃ (t:Nat) (G:Fl),a=.int .i64 t∧t≤ns.length∧comesP l (ns.take t) F0=.ok G∧LkM w cb sb ob lb L pv fv G lk wr∧Kp (XL cb sb ob lb (w.heap.size+1)) W wr
section
variable {B:Nat} {w:World} {p:Pg}
set_option maxRecDepth 100000 in
set_option maxHeartbeats 8000000 in
theorem rlook_any {v1 v2 v3 v4:Value} {n:Nat} {f:Fd} (P:PgAt B w v1 v2 v3 v4 p) (hB:B≤w.heap.size) (H:Hok p) (hf:p.fu[n]?=some f):Calls Tryz.prog 14 #[.agg #[v1,v2,v3,v4],.int .i64 (n:Int)] w (LkO p f w):=by
 obtain ⟨a1,d1,hv1⟩:=sl_form P.ty
 obtain ⟨a3,d3,hv3⟩:=sl_form P.ta
 obtain ⟨a4,d4,hv4⟩:=sl_form P.st
 subst hv1 hv3 hv4
 have hfo:=H.fu f (List.mem_of_getElem? hf)
 obtain ⟨g0,o0,d2,n0,u1,u2,u3,u4,hv2,hn0,hnl,hg0,⟨y0,y1,y2,y3,y4⟩,s1,s2,s3,s4⟩:=fd_at P.fu hf
 subst hv2
 rw [hn0] at hnl
 subst hn0
 obtain ⟨b1,x1,hu1⟩:=sl_form s1
 obtain ⟨b2,x2,hu2⟩:=sl_form s2
 obtain ⟨b3,x3,hu3⟩:=sl_form s3
 obtain ⟨b4,x4,hu4⟩:=sl_form s4
 subst hu1 hu2 hu3 hu4
 have hg0w:g0<w.heap.size:=Nat.lt_of_lt_of_le hg0 hB
 have hfl:f.co.length≤65536:=hfo.nc
 have hf0:0<f.co.length:=hfo.co
 obtain ⟨W1,hW1⟩ : ∃ W1,((w.alloc (.cells #[.slice a1 p.ty.length d1,.slice (some ⟨g0,o0,none⟩) p.fu.length d2,.slice a3 p.ta.length d3,.slice a4 p.st.length d4] 27)).alloc (.cells #[.slice none 0 0,.slice none 0 0,.int .i64 0] 55)).alloc (.cells #[.int .i64 f.pa,.slice b1 f.lo.length x1,.slice b2 f.re.length x2,.slice b3 f.ar.length x3,.slice b4 f.co.length x4] 40)=W1:=⟨_,rfl⟩
 have bw1:Below w.heap.size w W1:=by rw [← hW1];exact (((Below.refl _ _).alloc (Nat.le_refl _) _).alloc (by simp) _).alloc (by simp;omega) _
 have e0:W1.heap[w.heap.size]?=some (.cells #[.slice a1 p.ty.length d1,.slice (some ⟨g0,o0,none⟩) p.fu.length d2,.slice a3 p.ta.length d3,.slice a4 p.st.length d4] 27 (0,0)):=by rw [← hW1,heap_alloc_old _ _ (by simp;omega),heap_alloc_old _ _ (by simp)];exact heap_new _ _ rfl
 have e1:W1.heap[w.heap.size+1]?=some (.cells #[.slice none 0 0,.slice none 0 0,.int .i64 0] 55 (0,0)):=by rw [← hW1,heap_alloc_old _ _ (by simp)];exact heap_new _ _ (by simp)
 have e2:W1.heap[w.heap.size+2]?=some (.cells #[.int .i64 f.pa,.slice b1 f.lo.length x1,.slice b2 f.re.length x2,.slice b3 f.ar.length x3,.slice b4 f.co.length x4] 40 (0,0)):=by rw [← hW1];exact heap_new _ _ (by simp)
 have z1:W1.heap.size=w.heap.size+3:=by rw [← hW1];simp
 have k24:W1.cell? ⟨w.heap.size+2,4,none⟩=some (.slice b4 f.co.length x4):=cell_of e2 rfl
 have l12:w.heap.size+2<W1.heap.size:=by omega
 have z2:decide (n<p.fu.length)=true:=by simpa using hnl
 have HB1:=hide bw1
 have HE0:=hide e0
 have HE1:=hide e1
 have HE2:=hide e2
 have HZ1:=hide z1
 obtain ⟨L,hL⟩ : ∃ L,f.co.length=L:=⟨_,rfl⟩
 rw [hL] at hfl hf0 k24 hW1 HE2
 have HLC:=hide hL
 have HHO:=hide H
 have HFO:=hide hfo
 have HF:=hide hf
 have HPG:=hide (show ∀ W:World,Below w.heap.size w W→PgAt B W (.slice a1 p.ty.length d1) (.slice (some ⟨g0,o0,none⟩) p.fu.length d2) (.slice a3 p.ta.length d3) (.slice a4 p.st.length d4) p∧B≤W.heap.size∧SlAt 1 IntP B W (.slice b1 f.lo.length x1) f.lo∧SlAt 1 IntP B W (.slice b2 f.re.length x2) f.re∧SlAt 1 IntP B W (.slice b3 f.ar.length x3) f.ar∧SlAt 3 InsP B W (.slice b4 f.co.length x4) f.co from fun W h=>by
  have hk:∀ j,j<B→W.heap[j]?=w.heap[j]?:=fun j hj=>h.block j (by omega)
  exact ⟨P.keep (Nat.le_refl _) hk,Nat.le_trans hB h.size,ints_keep (Nat.le_refl _) hk s1,ints_keep (Nat.le_refl _) hk s2,ints_keep (Nat.le_refl _) hk s3,ins_keep (Nat.le_refl _) hk s4⟩)
 rw [hL] at HPG y4
 clear P H hfo hf bw1 e0 e1 e2 z1 s1 s2 s3 s4 hL
 go_enter Tryz.func14,Tryz.ntmps14
 go_upto_region 3 with (fail)
 clear hW1 y0 y1 y2 y3 y4
 go_cut [9] from 28 to 32 (fun v wc=>Hid (∃ cb sb ob,v=.pointer (some ⟨ob,0,none⟩)∧L3O W1 L cb sb ob wc))
 case first =>
  refine wp_region_held_drew (S:=(fun _:World=>True)) (by kernel_rfl) trivial (fun hHeld1=>?_)
  have HR:=hide (L3.begin' (Wb:=W1) (L:=L))
  generalize W1.drew=X0 at *
  refine tk 0 ?_;simp only [sp]
  refine tk 2 ?_;simp only [sp]
  refine wpAnyH_ready (rs:=[1,3,5]) (by kernel_rfl) (by simp) ?_
  refine AllReadyH.cons (Go.Proofs.YtkdojpnihinpbaaGreatDoor.dr rfl) (fun K hK=>?_) (AllReadyH.cons (Go.Proofs.YtkdojpnihinpbaaGreatDoor.dr rfl) (fun K hK=>?_) (AllReadyH.cons (Go.Proofs.YtkdojpnihinpbaaGreatDoor.dr rfl) (fun K hK=>?_) AllReadyH.nil))
  · skip
    have hr:=run_bools X0 L hfl
    have HR1:=hide HR.out.cm
    generalize X0.alloc (.cells (List.replicate L (Value.bool false)).toArray 4)=X1 at *
    go_simp
    go_wp2_with fail
    refine hK.out _ _ trivial (fun hHeld4=>?_)
    clear hK K
    try simp only [sp]
    clear HR hr
    have HR:=HR1
    clear HR1
    refine wpAnyH_ready (rs:=[3,5]) (by kernel_rfl) (by simp) ?_
    refine AllReadyH.cons (Go.Proofs.YtkdojpnihinpbaaGreatDoor.dr rfl) (fun K hK=>?_) (AllReadyH.cons (Go.Proofs.YtkdojpnihinpbaaGreatDoor.dr rfl) (fun K hK=>?_) AllReadyH.nil)
    · skip
      have hr:=run_intss X1 L hfl
      have HR1:=hide HR.out.st
      generalize X1.alloc (.cells (List.replicate L (Value.slice none 0 0)).toArray 37)=X2 at *
      go_simp
      go_wp2_with fail
      refine hK.out _ _ trivial (fun hHeld5=>?_)
      clear hK K
      try simp only [sp]
      clear HR hr
      have HR:=HR1
      clear HR1
      refine tk 4 ?_;simp only [sp]
      refine wpAnyH_ready (rs:=[5]) (by kernel_rfl) (by simp) ?_
      refine AllReadyH.cons (Go.Proofs.YtkdojpnihinpbaaGreatDoor.dr rfl) (fun K hK=>?_) AllReadyH.nil
      have HR1:=hide HR.out.ou
      go_simp
      go_wp2_with fail
      refine hK.out _ _ trivial (fun hHeld7=>?_)
      clear hK K
      try simp only [sp]
      generalize X2.alloc (.cells #[.slice none 0 0,.slice none 0 0,.int .i64 0] 55)=X3 at *
      clear HR
      have HR:=HR1
      clear HR1
      obtain ⟨hfin,hlt9,hcl,hbk⟩:=HR.out.fin
      have HFIN:=hide hfin
      have q0:=frz hbk 0
      have q1:=frz hbk 1
      have q2:=frz hbk 2
      have k0:=cell_of (o:=0) hbk rfl
      have k1:=cell_of (o:=1) hbk rfl
      have k2:=cell_of (o:=2) hbk rfl
      clear hfin hcl
      refine rd 6 (fun K hK=>?_)
      go_simp
      go_wp2_with fail
      refine hK.out _ _ trivial (fun hHeld8=>?_)
      clear hK K
      try simp only [sp]
      refine wpAnyH_done (by kernel_rfl) ?_ _
      go_wp2_with fail
      go_meet
      exact hide ⟨_,_,_,rfl,HFIN.out⟩
    · skip
      have HR1:=hide HR.out.ou
      go_simp
      go_wp2_with fail
      refine hK.out _ _ trivial (fun hHeld9=>?_)
      clear hK K
      try simp only [sp]
      generalize X1.alloc (.cells #[.slice none 0 0,.slice none 0 0,.int .i64 0] 55)=X2 at *
      clear HR
      have HR:=HR1
      clear HR1
      refine wpAnyH_ready (rs:=[3]) (by kernel_rfl) (by simp) ?_
      refine AllReadyH.cons (Go.Proofs.YtkdojpnihinpbaaGreatDoor.dr rfl) (fun K hK=>?_) AllReadyH.nil
      have hr:=run_intss X2 L hfl
      have HR1:=hide HR.out.st
      generalize X2.alloc (.cells (List.replicate L (Value.slice none 0 0)).toArray 37)=X3 at *
      go_simp
      go_wp2_with fail
      refine hK.out _ _ trivial (fun hHeld10=>?_)
      clear hK K
      try simp only [sp]
      clear HR hr
      have HR:=HR1
      clear HR1
      refine tk 4 ?_;simp only [sp]
      obtain ⟨hfin,hlt9,hcl,hbk⟩:=HR.out.fin
      have HFIN:=hide hfin
      have q0:=frz hbk 0
      have q1:=frz hbk 1
      have q2:=frz hbk 2
      have k0:=cell_of (o:=0) hbk rfl
      have k1:=cell_of (o:=1) hbk rfl
      have k2:=cell_of (o:=2) hbk rfl
      clear hfin hcl
      refine rd 6 (fun K hK=>?_)
      go_simp
      go_wp2_with fail
      refine hK.out _ _ trivial (fun hHeld12=>?_)
      clear hK K
      try simp only [sp]
      refine wpAnyH_done (by kernel_rfl) ?_ _
      go_wp2_with fail
      go_meet
      exact hide ⟨_,_,_,rfl,HFIN.out⟩
  · skip
    have hr:=run_intss X0 L hfl
    have HR1:=hide HR.out.st
    generalize X0.alloc (.cells (List.replicate L (Value.slice none 0 0)).toArray 37)=X1 at *
    go_simp
    go_wp2_with fail
    refine hK.out _ _ trivial (fun hHeld13=>?_)
    clear hK K
    try simp only [sp]
    clear HR hr
    have HR:=HR1
    clear HR1
    refine wpAnyH_ready (rs:=[1,5]) (by kernel_rfl) (by simp) ?_
    refine AllReadyH.cons (Go.Proofs.YtkdojpnihinpbaaGreatDoor.dr rfl) (fun K hK=>?_) (AllReadyH.cons (Go.Proofs.YtkdojpnihinpbaaGreatDoor.dr rfl) (fun K hK=>?_) AllReadyH.nil)
    · skip
      have hr:=run_bools X1 L hfl
      have HR1:=hide HR.out.cm
      generalize X1.alloc (.cells (List.replicate L (Value.bool false)).toArray 4)=X2 at *
      go_simp
      go_wp2_with fail
      refine hK.out _ _ trivial (fun hHeld14=>?_)
      clear hK K
      try simp only [sp]
      clear HR hr
      have HR:=HR1
      clear HR1
      refine tk 4 ?_;simp only [sp]
      refine wpAnyH_ready (rs:=[5]) (by kernel_rfl) (by simp) ?_
      refine AllReadyH.cons (Go.Proofs.YtkdojpnihinpbaaGreatDoor.dr rfl) (fun K hK=>?_) AllReadyH.nil
      have HR1:=hide HR.out.ou
      go_simp
      go_wp2_with fail
      refine hK.out _ _ trivial (fun hHeld16=>?_)
      clear hK K
      try simp only [sp]
      generalize X2.alloc (.cells #[.slice none 0 0,.slice none 0 0,.int .i64 0] 55)=X3 at *
      clear HR
      have HR:=HR1
      clear HR1
      obtain ⟨hfin,hlt9,hcl,hbk⟩:=HR.out.fin
      have HFIN:=hide hfin
      have q0:=frz hbk 0
      have q1:=frz hbk 1
      have q2:=frz hbk 2
      have k0:=cell_of (o:=0) hbk rfl
      have k1:=cell_of (o:=1) hbk rfl
      have k2:=cell_of (o:=2) hbk rfl
      clear hfin hcl
      refine rd 6 (fun K hK=>?_)
      go_simp
      go_wp2_with fail
      refine hK.out _ _ trivial (fun hHeld17=>?_)
      clear hK K
      try simp only [sp]
      refine wpAnyH_done (by kernel_rfl) ?_ _
      go_wp2_with fail
      go_meet
      exact hide ⟨_,_,_,rfl,HFIN.out⟩
    · skip
      have HR1:=hide HR.out.ou
      go_simp
      go_wp2_with fail
      refine hK.out _ _ trivial (fun hHeld18=>?_)
      clear hK K
      try simp only [sp]
      generalize X1.alloc (.cells #[.slice none 0 0,.slice none 0 0,.int .i64 0] 55)=X2 at *
      clear HR
      have HR:=HR1
      clear HR1
      refine wpAnyH_ready (rs:=[1]) (by kernel_rfl) (by simp) ?_
      refine AllReadyH.cons (Go.Proofs.YtkdojpnihinpbaaGreatDoor.dr rfl) (fun K hK=>?_) AllReadyH.nil
      have hr:=run_bools X2 L hfl
      have HR1:=hide HR.out.cm
      generalize X2.alloc (.cells (List.replicate L (Value.bool false)).toArray 4)=X3 at *
      go_simp
      go_wp2_with fail
      refine hK.out _ _ trivial (fun hHeld19=>?_)
      clear hK K
      try simp only [sp]
      clear HR hr
      have HR:=HR1
      clear HR1
      refine tk 4 ?_;simp only [sp]
      obtain ⟨hfin,hlt9,hcl,hbk⟩:=HR.out.fin
      have HFIN:=hide hfin
      have q0:=frz hbk 0
      have q1:=frz hbk 1
      have q2:=frz hbk 2
      have k0:=cell_of (o:=0) hbk rfl
      have k1:=cell_of (o:=1) hbk rfl
      have k2:=cell_of (o:=2) hbk rfl
      clear hfin hcl
      refine rd 6 (fun K hK=>?_)
      go_simp
      go_wp2_with fail
      refine hK.out _ _ trivial (fun hHeld21=>?_)
      clear hK K
      try simp only [sp]
      refine wpAnyH_done (by kernel_rfl) ?_ _
      go_wp2_with fail
      go_meet
      exact hide ⟨_,_,_,rfl,HFIN.out⟩
  · skip
    have HR1:=hide HR.out.ou
    go_simp
    go_wp2_with fail
    refine hK.out _ _ trivial (fun hHeld22=>?_)
    clear hK K
    try simp only [sp]
    generalize X0.alloc (.cells #[.slice none 0 0,.slice none 0 0,.int .i64 0] 55)=X1 at *
    clear HR
    have HR:=HR1
    clear HR1
    refine wpAnyH_ready (rs:=[1,3]) (by kernel_rfl) (by simp) ?_
    refine AllReadyH.cons (Go.Proofs.YtkdojpnihinpbaaGreatDoor.dr rfl) (fun K hK=>?_) (AllReadyH.cons (Go.Proofs.YtkdojpnihinpbaaGreatDoor.dr rfl) (fun K hK=>?_) AllReadyH.nil)
    · skip
      have hr:=run_bools X1 L hfl
      have HR1:=hide HR.out.cm
      generalize X1.alloc (.cells (List.replicate L (Value.bool false)).toArray 4)=X2 at *
      go_simp
      go_wp2_with fail
      refine hK.out _ _ trivial (fun hHeld23=>?_)
      clear hK K
      try simp only [sp]
      clear HR hr
      have HR:=HR1
      clear HR1
      refine wpAnyH_ready (rs:=[3]) (by kernel_rfl) (by simp) ?_
      refine AllReadyH.cons (Go.Proofs.YtkdojpnihinpbaaGreatDoor.dr rfl) (fun K hK=>?_) AllReadyH.nil
      have hr:=run_intss X2 L hfl
      have HR1:=hide HR.out.st
      generalize X2.alloc (.cells (List.replicate L (Value.slice none 0 0)).toArray 37)=X3 at *
      go_simp
      go_wp2_with fail
      refine hK.out _ _ trivial (fun hHeld24=>?_)
      clear hK K
      try simp only [sp]
      clear HR hr
      have HR:=HR1
      clear HR1
      refine tk 4 ?_;simp only [sp]
      obtain ⟨hfin,hlt9,hcl,hbk⟩:=HR.out.fin
      have HFIN:=hide hfin
      have q0:=frz hbk 0
      have q1:=frz hbk 1
      have q2:=frz hbk 2
      have k0:=cell_of (o:=0) hbk rfl
      have k1:=cell_of (o:=1) hbk rfl
      have k2:=cell_of (o:=2) hbk rfl
      clear hfin hcl
      refine rd 6 (fun K hK=>?_)
      go_simp
      go_wp2_with fail
      refine hK.out _ _ trivial (fun hHeld26=>?_)
      clear hK K
      try simp only [sp]
      refine wpAnyH_done (by kernel_rfl) ?_ _
      go_wp2_with fail
      go_meet
      exact hide ⟨_,_,_,rfl,HFIN.out⟩
    · skip
      have hr:=run_intss X1 L hfl
      have HR1:=hide HR.out.st
      generalize X1.alloc (.cells (List.replicate L (Value.slice none 0 0)).toArray 37)=X2 at *
      go_simp
      go_wp2_with fail
      refine hK.out _ _ trivial (fun hHeld27=>?_)
      clear hK K
      try simp only [sp]
      clear HR hr
      have HR:=HR1
      clear HR1
      refine wpAnyH_ready (rs:=[1]) (by kernel_rfl) (by simp) ?_
      refine AllReadyH.cons (Go.Proofs.YtkdojpnihinpbaaGreatDoor.dr rfl) (fun K hK=>?_) AllReadyH.nil
      have hr:=run_bools X2 L hfl
      have HR1:=hide HR.out.cm
      generalize X2.alloc (.cells (List.replicate L (Value.bool false)).toArray 4)=X3 at *
      go_simp
      go_wp2_with fail
      refine hK.out _ _ trivial (fun hHeld28=>?_)
      clear hK K
      try simp only [sp]
      clear HR hr
      have HR:=HR1
      clear HR1
      refine tk 4 ?_;simp only [sp]
      obtain ⟨hfin,hlt9,hcl,hbk⟩:=HR.out.fin
      have HFIN:=hide hfin
      have q0:=frz hbk 0
      have q1:=frz hbk 1
      have q2:=frz hbk 2
      have k0:=cell_of (o:=0) hbk rfl
      have k1:=cell_of (o:=1) hbk rfl
      have k2:=cell_of (o:=2) hbk rfl
      clear hfin hcl
      refine rd 6 (fun K hK=>?_)
      go_simp
      go_wp2_with fail
      refine hK.out _ _ trivial (fun hHeld30=>?_)
      clear hK K
      try simp only [sp]
      refine wpAnyH_done (by kernel_rfl) ?_ _
      go_wp2_with fail
      go_meet
      exact hide ⟨_,_,_,rfl,HFIN.out⟩
 case rest =>
  obtain ⟨cb,sb,ob,hvo,hO⟩:=hcut.out
  subst hvo
  obtain ⟨hbc,hcm,hst,hou,l1,l2,l3,n1,n2,n3⟩:=hO
  have hz1:=HZ1.out
  have hr:=run_bools wc L hfl
  have hlb:=heap_new wc (.cells (List.replicate L (Value.bool false)).toArray 4) rfl
  have bl:Below wc.heap.size wc (wc.alloc (.cells (List.replicate L (Value.bool false)).toArray 4)):=(Below.refl _ _).alloc (Nat.le_refl _) _
  generalize wc.alloc (.cells (List.replicate L (Value.bool false)).toArray 4)=Wl at *
  have g1:=lt_of_block hcm
  have g2:=lt_of_block hst
  have g3:=lt_of_block hou
  have hbl:Below W1.heap.size W1 Wl:=bel_tr hbc bl
  have eo:=(bl.block _ g3).trans hou
  have ec:=(bl.block _ g1).trans hcm
  have c0:Wl.cell? ⟨ob,0,none⟩=some (.slice (some ⟨cb,0,none⟩) L L):=cell_of eo rfl
  have c1:Wl.cell? ⟨cb,0,none⟩=some (.bool false):=cell_of ec (by simp [hf0])
  have c2:=frz ec 0
  have dL0:decide (0<L)=true:=by simpa using hf0
  have HM0:=hide (LkM.new (pv:=#[.slice a1 p.ty.length d1,.slice (some ⟨g0,o0,none⟩) p.fu.length d2,.slice a3 p.ta.length d3,.slice a4 p.st.length d4]) (fv:=#[.int .i64 f.pa,.slice b1 f.lo.length x1,.slice b2 f.re.length x2,.slice b3 f.ar.length x3,.slice b4 L x4]) (cb:=cb) (sb:=sb) (ob:=ob) (lb:=wc.heap.size) (bel_tr HB1.out hbl) ((hbl.block _ (lt_of_block HE0.out)).trans HE0.out) ((hbl.block _ (lt_of_block HE1.out)).trans HE1.out) ((hbl.block _ (lt_of_block HE2.out)).trans HE2.out) ec ((bl.block _ g2).trans hst) eo hlb hf0 ⟨by omega,by omega,by omega,by have:=hbc.size;omega⟩ ⟨n1,n2,by omega,n3,by omega,by omega⟩)
  have hgol:ob<Wl.heap.size:=by have:=bl.size;omega
  have hgcl:cb<Wl.heap.size:=by have:=bl.size;omega
  clear hcut hbc hcm hst hou hlb bl hbl eo ec g1 g2 g3 k24 l12
  go_wp2_with fail
  generalize wc.heap.size=lb at *
  generalize Wl.setCell ⟨cb,0,none⟩ (.bool true)=W0 at *
  have HI0:=hide (show LkI p f w cb sb ob lb L #[.slice a1 p.ty.length d1,.slice (some ⟨g0,o0,none⟩) p.fu.length d2,.slice a3 p.ta.length d3,.slice a4 p.st.length d4] #[.int .i64 f.pa,.slice b1 f.lo.length x1,.slice b2 f.re.length x2,.slice b3 f.ar.length x3,.slice b4 L x4] W0 from by
   have h:=fl0_inv (p:=p) HFO.out.co
   rw [HLC.out] at h
   exact ⟨fl0 L,_,L+1,0,HM0.out,by unfold followP;rw [HLC.out],by rw [h.2];exact Nat.le_refl _,h.1,by omega⟩)
  clear HM0 c0 c1 c2
  go_loopw [] (fun wr=>LkI p f w cb sb ob lb L #[.slice a1 p.ty.length d1,.slice (some ⟨g0,o0,none⟩) p.fu.length d2,.slice a3 p.ta.length d3,.slice a4 p.st.length d4] #[.int .i64 f.pa,.slice b1 f.lo.length x1,.slice b2 f.re.length x2,.slice b3 f.ar.length x3,.slice b4 L x4] wr) (fun wr=>unl lb wr)
  case atStart=>exact HI0.out
  case round =>
   obtain ⟨F,lk,k,j,M,hrun,hmm,I,hjk⟩:=hrel
   have HM:=hide M
   have HRUN:=hide hrun
   have HMM:=hide hmm
   have HI:=hide I
   have HJK:=hide hjk
   clear M hrun hmm I hjk HI0
   obtain ⟨WR,hWR⟩ : ∃ W,W=wr:=⟨_,rfl⟩
   subst hWR
   have co0:WR.cell? ⟨ob,0,none⟩=some (.slice (some ⟨cb,0,none⟩) L L):=cell_of HM.out.out rfl
   have hob:ob<WR.heap.size:=lt_of_block HM.out.out
   have hcb:cb<WR.heap.size:=lt_of_block HM.out.cm
   have hlb2:lb<WR.heap.size:=lt_of_block HM.out.lo
   go_wp2_with fail
   go_loopw [11] (fun a wr'=>LfR F.wt L WR a wr') (fun a _=>L - (intOf a).toNat)
   case atStart=>exact ⟨0,rfl,Nat.zero_le _,fun k hk=>by omega,rfl⟩
   case round =>
    obtain ⟨i,rfl,hi,hall,hw9⟩:=hrel
    rw [hw9]
    clear hw9
    have HALL:=hide hall
    clear hall
    by_cases hil:i<L
    · obtain ⟨o,ho⟩ : ∃ o,F.ah[i]?=some o:=⟨F.ah[i]'(by rw [HM.out.la];exact hil),by simp⟩
      obtain ⟨b,hb⟩ : ∃ b,lk[i]?=some b:=⟨lk[i]'(by rw [HM.out.ll];exact hil),by simp⟩
      have c1:WR.cell? ⟨cb,i,none⟩=some (.bool o.isSome):=cell_of HM.out.cm (by simp [cvs,ho])
      have c2:WR.cell? ⟨lb,i,none⟩=some (.bool b):=cell_of HM.out.lo (by simp [bvs,hb])
      have HWT:=hide (HM.out.wt i o b ho hb)
      have HHO2:=hide ho
      have HHB:=hide hb
      have ddi:decide (i<L)=true:=by simpa using hil
      have ddj:(i:Int)≤65536:=by omega
      clear ho hb
      have HNXT:=hide (show F.wt[i]?=some false→∀ k,k<i+1→F.wt[k]?=some false from fun h k hk=>by
       rcases Nat.lt_or_ge k i with h1 | h1
       · exact HALL.out k h1
       · obtain rfl:k=i:=by omega
         exact h)
      cases o with
      | none =>
       have HN:=hide (HNXT.out HWT.out)
       clear HNXT HWT HHO2
       go_wp2
       go_roundw
       case rel=>exact ⟨i+1,by first | exact num_next hil (by omega) | go_num,hil,HN.out,rfl⟩
       case measure=>first | exact meas_int hil (by omega) | (rw [intOf_int,intOf_int];omega)
      | some s =>
       cases b with
       | true =>
        have HN:=hide (HNXT.out HWT.out)
        clear HNXT HWT HHO2
        go_wp2
        go_roundw
        case rel=>exact ⟨i+1,by first | exact num_next hil (by omega) | go_num,hil,HN.out,rfl⟩
        case measure=>first | exact meas_int hil (by omega) | (rw [intOf_int,intOf_int];omega)
       | false =>
        have hlea:leastP F.wt=some i:=least_at HALL.out HWT.out
        have dne:((i:Int) == (L:Int))=false:=by simp;omega
        have dne2:(i == L)=false:=by simp;omega
        have cf2:=frz HM.out.lo i
        obtain ⟨x,hx⟩ : ∃ x,f.co[i]?=some x:=⟨f.co[i]'(by rw [HLC.out];exact hil),by simp⟩
        obtain ⟨k',hk'⟩ : ∃ k',k=k' + 1:=⟨k - 1,by have:=HMM.out;omega⟩
        have HSTP:=hide (show stepP p f i F=lkR p f i x s { F with wt:=F.wt.set i false } from step_lk x (by rw [hx];rfl) (by rw [HHO2.out];rfl))
        have HERR:=hide (show ∀ c,lkR p f i x s { F with wt:=F.wt.set i false }=.error c→followP p f=.error (i,c) from fun c h=>by
         rw [← HRUN.out,hk']
         unfold runP
         rw [hlea]
         dsimp only
         rw [HSTP.out,h])
        have HGO:=hide (show ∀ G,lkR p f i x s { F with wt:=F.wt.set i false }=.ok G→runP p f k' G=followP p f∧MM G+1≤k'∧FInv p f (j+1) G∧j+1+k'≤L+1 from fun G h=>by
         have h2:=step_inv HHO.out HFO.out HI.out hlea (HSTP.out.trans h)
         have hmm:=HMM.out
         have hjk:=HJK.out
         refine ⟨?_,by omega,h2.1,by omega⟩
         rw [← HRUN.out,hk']
         conv=>rhs;unfold runP
         rw [hlea]
         dsimp only
         rw [HSTP.out,h])
        have HKS:=hide (show (∀ k∈s,isKB p.ty.length k=true)∧s.length≤300000000 from by
         obtain ⟨h1,h2⟩:=HI.out.st i s HHO2.out
         have:=HJK.out
         exact ⟨h1,by omega⟩)
        have HM2:=hide (HM.out.look HHO2.out)
        have hxo:=HFO.out.op x (List.mem_of_getElem? hx)
        have HUN:=hide (show unl lb (WR.setCell ⟨lb,i,none⟩ (.bool true))<unl lb WR from by rw [HM2.out.unl,HM.out.unl];exact unl_less HHB.out)
        obtain ⟨g5,o5,c5,hv5,hg5,w0,w1,w2,bo,ba,bb⟩:=ins_atE (by have h:=(HPG.out _ HM2.out.bel).2.2.2.2.2;rw [← HLC.out] at h;exact h) hx
        rw [HLC.out] at hv5
        cases hv5
        obtain ⟨scs,q1,q2,q3⟩:=HM2.out.st
        obtain ⟨cv,hcv,hIs,hBd⟩:=q3 i (some s) HHO2.out
        obtain ⟨sa,sc,hcv2⟩ : ∃ a c,cv=.slice a s.length c:=by obtain ⟨a,c,h,_⟩:=hIs;exact ⟨a,c,h⟩
        subst hcv2
        have HIS:=hide hIs
        have HBD:=hide hBd
        clear hlea hk' HNXT HHB HWT HALL hx q2 q3 hIs hBd
        go_upto_region 12 with (fail)
        generalize WR.setCell ⟨lb,i,none⟩ (.bool true)=W2 at *
        have hg5w:g5<W2.heap.size:=by have:=HM2.out.bel.size;omega
        have HS12:=hide (show ∀ W:World,Below W2.heap.size W2 W→(fun W:World=>W.cell? ⟨w.heap.size+2,4,none⟩=some (.slice (some ⟨g5,o5,none⟩) L x4)∧W.cell? ⟨g5,o5+i*3,none⟩=some (.int .i64 x.o)∧W.cell? ⟨g5,o5+i*3+1,none⟩=some (.int .i64 x.a)∧W.cell? ⟨g5,o5+i*3+2,none⟩=some (.int .i64 x.b)∧W.cell? ⟨ob,1,none⟩=some (.slice (some ⟨sb,0,none⟩) L L)∧W.cell? ⟨sb,i,none⟩=some (.slice sa s.length sc)) W from fun W h=>⟨cell_of ((h.block _ (lt_of_block HM2.out.fbx)).trans HM2.out.fbx) rfl,(h.cell (p:=⟨g5,o5+i*3,none⟩) hg5w).trans w0,(h.cell (p:=⟨g5,o5+i*3+1,none⟩) hg5w).trans w1,(h.cell (p:=⟨g5,o5+i*3+2,none⟩) hg5w).trans w2,cell_of ((h.block _ (lt_of_block HM2.out.out)).trans HM2.out.out) rfl,cell_of ((h.block _ (lt_of_block q1)).trans q1) (by rw [List.getElem?_toArray];exact hcv)⟩)
        clear c1 c2 cf2 co0 w0 w1 w2 q1 hcv
        go_cut [12,13] from 64 to 73 (fun v u wc=>Hid (v=.pointer (some ⟨W2.heap.size,0,none⟩)∧u=.slice sa s.length sc∧Below W2.heap.size W2 wc∧wc.heap[W2.heap.size]?=some (.cells #[.int .i64 x.o,.int .i64 x.a,.int .i64 x.b] 46 (0,0))))
        case first =>
         refine wp_region_held_drew (S:=(fun W:World=>W.cell? ⟨w.heap.size+2,4,none⟩=some (.slice (some ⟨g5,o5,none⟩) L x4)∧W.cell? ⟨g5,o5+i*3,none⟩=some (.int .i64 x.o)∧W.cell? ⟨g5,o5+i*3+1,none⟩=some (.int .i64 x.a)∧W.cell? ⟨g5,o5+i*3+2,none⟩=some (.int .i64 x.b)∧W.cell? ⟨ob,1,none⟩=some (.slice (some ⟨sb,0,none⟩) L L)∧W.cell? ⟨sb,i,none⟩=some (.slice sa s.length sc))) (by kernel_rfl) (HS12.out _ (below_drew (Below.refl _ _))) (fun hHeld31=>?_)
         refine tk 0 ?_;simp only [sp]
         refine tk 1 ?_;simp only [sp]
         refine tk 2 ?_;simp only [sp]
         refine tk 3 ?_;simp only [sp]
         refine tk 4 ?_;simp only [sp]
         refine tk 5 ?_;simp only [sp]
         refine tk 6 ?_;simp only [sp]
         refine tk 7 ?_;simp only [sp]
         refine tk 8 ?_;simp only [sp]
         refine tk 9 ?_;simp only [sp]
         refine rd 10 (fun K hK=>?_)
         go_simp
         go_wp2_with fail
         refine hK.out _ _ (HS12.out _ ((below_drew (Below.refl _ _)).alloc (Nat.le_refl _) _)) (fun hHeld42=>?_)
         clear hK K
         try simp only [sp]
         refine rd 11 (fun K hK=>?_)
         go_simp
         go_wp2_with fail
         refine hK.out _ _ (HS12.out _ ((below_drew (Below.refl _ _)).alloc (Nat.le_refl _) _)) (fun hHeld43=>?_)
         clear hK K
         try simp only [sp]
         refine tk 12 ?_;simp only [sp]
         refine wpAnyH_done (by kernel_rfl) ?_ _
         go_wp2_with fail
         go_meet
         exact hide ⟨rfl,rfl,(below_drew (Below.refl _ _)).alloc (Nat.le_refl _) _,heap_new W2.drew _ rfl⟩
        case rest =>
         obtain ⟨hv12,hv13,hb3,he3⟩:=hcut.out
         subst hv12 hv13
         have HM3:=hide (HM2.out.up hb3)
         have HB3:=hide hb3
         have HE3:=hide he3
         have HC3:=hide (show ∀ W:World,Below wc.heap.size wc W→(W.cell? ⟨w.heap.size,0,none⟩=some (.slice a1 p.ty.length d1)∧W.cell? ⟨w.heap.size,1,none⟩=some (.slice (some ⟨g0,o0,none⟩) p.fu.length d2)∧W.cell? ⟨w.heap.size,2,none⟩=some (.slice a3 p.ta.length d3)∧W.cell? ⟨w.heap.size,3,none⟩=some (.slice a4 p.st.length d4))∧(W.cell? ⟨w.heap.size+2,0,none⟩=some (.int .i64 f.pa)∧W.cell? ⟨w.heap.size+2,1,none⟩=some (.slice b1 f.lo.length x1)∧W.cell? ⟨w.heap.size+2,2,none⟩=some (.slice b2 f.re.length x2)∧W.cell? ⟨w.heap.size+2,3,none⟩=some (.slice b3 f.ar.length x3)∧W.cell? ⟨w.heap.size+2,4,none⟩=some (.slice (some ⟨g5,o5,none⟩) L x4))∧(W.cell? ⟨W2.heap.size,0,none⟩=some (.int .i64 x.o)∧W.cell? ⟨W2.heap.size,1,none⟩=some (.int .i64 x.a)∧W.cell? ⟨W2.heap.size,2,none⟩=some (.int .i64 x.b))∧(w.heap.size<W.heap.size∧w.heap.size+2<W.heap.size∧W2.heap.size<W.heap.size) from fun W h=>by
          have M:=HM3.out.up h
          have e3:=(h.block _ (lt_of_block he3)).trans he3
          exact ⟨⟨cell_of M.pbx rfl,cell_of M.pbx rfl,cell_of M.pbx rfl,cell_of M.pbx rfl⟩,⟨cell_of M.fbx rfl,cell_of M.fbx rfl,cell_of M.fbx rfl,cell_of M.fbx rfl,cell_of M.fbx rfl⟩,⟨cell_of e3 rfl,cell_of e3 rfl,cell_of e3 rfl⟩,lt_of_block M.pbx,lt_of_block M.fbx,lt_of_block e3⟩)
         obtain ⟨⟨p0,p1,p2,p3⟩,⟨f0,f1,f2,f3,f4⟩,⟨i0,i1,i2⟩,ll0,ll2,ll3⟩:=HC3.out wc (Below.refl _ _)
         have HRG:=hide (ranges_any (u4:=.slice (some ⟨g5,o5,none⟩) L x4) (HPG.out wc HM3.out.bel).1 (HPG.out wc HM3.out.bel).2.1 (HPG.out wc HM3.out.bel).2.2.1 (HPG.out wc HM3.out.bel).2.2.2.1 (HPG.out wc HM3.out.bel).2.2.2.2.1 HHO.out.nt hxo ba)
         clear hcut hb3 he3 HS12
         go_wp2_with fail
         refine HRG.out.mono ?_
         rintro e w4 ⟨rfl,hb4⟩
         have HM4:=hide (HM3.out.up hb4)
         have HB4:=hide hb4
         clear hb4 HRG p0 p1 p2 p3 f0 f1 f2 f3 f4 i0 i1 i2 ll0 ll2 ll3
         cases hN:namesB p f x with
         | false =>
          have ro0:w4.cell? ⟨ob,0,none⟩=some (.slice (some ⟨cb,0,none⟩) L L):=cell_of HM4.out.out rfl
          have ro1:w4.cell? ⟨ob,1,none⟩=some (.slice (some ⟨sb,0,none⟩) L L):=cell_of HM4.out.out rfl
          have ro2:w4.cell? ⟨ob,2,none⟩=some (.int .i64 (F.mo:Int)):=cell_of HM4.out.out rfl
          have rz0:w4.cell? ⟨w.heap.size+1,0,none⟩=some (.slice none 0 0):=cell_of HM4.out.res rfl
          have rz1:w4.cell? ⟨w.heap.size+1,1,none⟩=some (.slice none 0 0):=cell_of HM4.out.res rfl
          have rz2:w4.cell? ⟨w.heap.size+1,2,none⟩=some (.int .i64 0):=cell_of HM4.out.res rfl
          have rf0:=frz HM4.out.res 0
          have rf1:=frz HM4.out.res 1
          have rf2:=frz HM4.out.res 2
          have hrl:w.heap.size+1<w4.heap.size:=lt_of_block HM4.out.res
          have HRET:=hide (HM4.out.ret (.slice (some ⟨cb,0,none⟩) L L) (.slice (some ⟨sb,0,none⟩) L L) (.int .i64 (F.mo:Int)))
          have HBADE:=hide (HERR.out 11 (lk1 hN))
          go_wp2_with fail
          generalize hWF:((w4.setCell ⟨w.heap.size+1,0,none⟩ (.slice (some ⟨cb,0,none⟩) L L)).setCell ⟨w.heap.size+1,1,none⟩ (.slice (some ⟨sb,0,none⟩) L L)).setCell ⟨w.heap.size+1,2,none⟩ (.int .i64 (F.mo:Int))=WF
          obtain ⟨y0,y1,y2,hbF,hkF,hoF⟩:=HRET.out WF hWF
          refine bodyPost_ret (v:=.tuple #[.agg #[.slice (some ⟨cb,0,none⟩) L L,.slice (some ⟨sb,0,none⟩) L L,.int .i64 (F.mo:Int)],.int .i64 (i:Int),.int .i64 11]) (look_res rfl rfl rfl y0 y1 y2) rfl ?_
          exact ⟨hbF,.inl ⟨i,11,cb,sb,L,F.mo,HBADE.out,rfl⟩⟩
         | true =>
          obtain ⟨⟨p0,p1,p2,p3⟩,⟨f0,f1,f2,f3,f4⟩,⟨i0,i1,i2⟩,ll0,ll2,ll3⟩:=HC3.out w4 HB4.out
          have HND:=hide (needs_any (u4:=.slice (some ⟨g5,o5,none⟩) L x4) (HPG.out w4 HM4.out.bel).1 (HPG.out w4 HM4.out.bel).2.1 (HPG.out w4 HM4.out.bel).2.2.1 (HPG.out w4 HM4.out.bel).2.2.2.1 (HPG.out w4 HM4.out.bel).2.2.2.2.1 HHO.out hxo hN)
          obtain ⟨nn,hnn⟩ : ∃ n,(takesP p f x).n=n:=⟨_,rfl⟩
          rw [hnn] at HND
          have HNN:=hide hnn
          go_upto_region 15 with (fail)
          go_cut [100] from 81 to 99 (fun v wc=>Hid (Below w4.heap.size w4 wc∧((v=.bool true∧(s.length<nn∨(x.o=24∧s.length≠nn)))∨(v=.bool false∧¬ s.length<nn∧¬ (x.o=24∧s.length≠nn)))))
          case first =>
           go_wp2_with fail
           refine HND.out.mono ?_
           rintro e w5 ⟨rfl,hb5⟩
           have HM5:=hide (HM4.out.up hb5)
           have HB5:=hide (bel_tr HB4.out hb5)
           have HB45:=hide hb5
           clear hb5 HND p0 p1 p2 p3 f0 f1 f2 f3 f4 i0 i1 i2 ll0 ll2 ll3 hnn
           obtain ⟨⟨p0,p1,p2,p3⟩,⟨f0,f1,f2,f3,f4⟩,⟨i0,i1,i2⟩,ll0,ll2,ll3⟩:=HC3.out w5 HB5.out
           by_cases hlt:s.length<nn
           · have dlt:decide (s.length<nn)=true:=by simpa using hlt
             have dlt2:decide ((s.length:Int)<(nn:Int))=true:=by simpa using hlt
             have HLT:=hide hlt
             clear hlt
             go_wp2_with fail
             go_meet
             exact hide ⟨HB45.out,.inl ⟨rfl,.inl HLT.out⟩⟩
           · have dlt:decide (s.length<nn)=false:=by simpa using hlt
             have dlt2:decide ((s.length:Int)<(nn:Int))=false:=by simpa using hlt
             have HLT:=hide hlt
             clear hlt
             by_cases h24:x.o=24
             · have q24:(x.o == 24)=true:=by simp [h24]
               have HNR:=hide (show nn=f.re.length by rw [← HNN.out];simp [takesP,h24,Must.n])
               have H24:=hide h24
               clear h24
               by_cases hgr:f.re.length<s.length
               · have dgr:decide (f.re.length<s.length)=true:=by simpa using hgr
                 have dgr2:decide ((f.re.length:Int)<(s.length:Int))=true:=by simpa using hgr
                 have HGR:=hide hgr
                 clear hgr
                 go_wp2_with fail
                 go_meet
                 exact hide ⟨HB45.out,.inl ⟨rfl,.inr ⟨H24.out,by have:=HNR.out;have:=HGR.out;omega⟩⟩⟩
               · have dgr:decide (f.re.length<s.length)=false:=by simpa using hgr
                 have dgr2:decide ((f.re.length:Int)<(s.length:Int))=false:=by simpa using hgr
                 have HGR:=hide hgr
                 clear hgr
                 go_wp2_with fail
                 go_meet
                 exact hide ⟨HB45.out,.inr ⟨rfl,HLT.out,fun h=>by have:=HNR.out;have:=HGR.out;have:=HLT.out;have:=h.2;omega⟩⟩
             · have q24:(x.o == 24)=false:=by simpa using h24
               have H24:=hide h24
               clear h24
               go_wp2_with fail
               go_meet
               exact hide ⟨HB45.out,.inr ⟨rfl,HLT.out,fun h=>H24.out h.1⟩⟩
          case rest =>
           obtain ⟨hb5,hor⟩:=hcut.out
           obtain ⟨w5,hw5⟩ : ∃ W,W=wc:=⟨_,rfl⟩
           subst hw5
           have HM5:=hide (HM4.out.up hb5)
           have HB5:=hide (bel_tr HB4.out hb5)
           rcases hor with ⟨hv,herr⟩ | ⟨hv,hlt5,h245⟩
           · subst hv
             have HERX:=hide herr
             clear hb5 HND p0 p1 p2 p3 f0 f1 f2 f3 f4 i0 i1 i2 ll0 ll2 ll3 hnn hcut herr
             have ro0:w5.cell? ⟨ob,0,none⟩=some (.slice (some ⟨cb,0,none⟩) L L):=cell_of HM5.out.out rfl
             have ro1:w5.cell? ⟨ob,1,none⟩=some (.slice (some ⟨sb,0,none⟩) L L):=cell_of HM5.out.out rfl
             have ro2:w5.cell? ⟨ob,2,none⟩=some (.int .i64 (F.mo:Int)):=cell_of HM5.out.out rfl
             have rz0:w5.cell? ⟨w.heap.size+1,0,none⟩=some (.slice none 0 0):=cell_of HM5.out.res rfl
             have rz1:w5.cell? ⟨w.heap.size+1,1,none⟩=some (.slice none 0 0):=cell_of HM5.out.res rfl
             have rz2:w5.cell? ⟨w.heap.size+1,2,none⟩=some (.int .i64 0):=cell_of HM5.out.res rfl
             have rf0:=frz HM5.out.res 0
             have rf1:=frz HM5.out.res 1
             have rf2:=frz HM5.out.res 2
             have hrl:w.heap.size+1<w5.heap.size:=lt_of_block HM5.out.res
             have HRET:=hide (HM5.out.ret (.slice (some ⟨cb,0,none⟩) L L) (.slice (some ⟨sb,0,none⟩) L L) (.int .i64 (F.mo:Int)))
             have HBADE:=hide (HERR.out 9 (lk2 hN (by rw [HNN.out];exact HERX.out)))
             go_wp2_with fail
             generalize hWF:((w5.setCell ⟨w.heap.size+1,0,none⟩ (.slice (some ⟨cb,0,none⟩) L L)).setCell ⟨w.heap.size+1,1,none⟩ (.slice (some ⟨sb,0,none⟩) L L)).setCell ⟨w.heap.size+1,2,none⟩ (.int .i64 (F.mo:Int))=WF
             obtain ⟨y0,y1,y2,hbF,hkF,hoF⟩:=HRET.out WF hWF
             change bodyPost Tryz.prog Tryz.f14 (LkO p f w) .ret _ WF
             refine bodyPost_ret (v:=.tuple #[.agg #[.slice (some ⟨cb,0,none⟩) L L,.slice (some ⟨sb,0,none⟩) L L,.int .i64 (F.mo:Int)],.int .i64 (i:Int),.int .i64 9]) (look_res rfl rfl rfl y0 y1 y2) rfl ?_
             exact ⟨hbF,.inl ⟨i,9,cb,sb,L,F.mo,HBADE.out,rfl⟩⟩
           subst hv
           have HLK:=hide (lk_ef (t:=i) (F:={ F with wt:=F.wt.set i false }) hN (by rw [HNN.out];exact hlt5) (by rw [HNN.out];exact h245))
           have HLE:=hide (Nat.le_of_not_lt hlt5)
           clear hb5 HND p0 p1 p2 p3 f0 f1 f2 f3 f4 i0 i1 i2 ll0 ll2 ll3 hnn hlt5 h245 hcut
           obtain ⟨⟨p0,p1,p2,p3⟩,⟨f0,f1,f2,f3,f4⟩,⟨i0,i1,i2⟩,ll0,ll2,ll3⟩:=HC3.out w5 HB5.out
           have HEF:=hide (effect_any (HPG.out w5 HM5.out.bel).1 (HPG.out w5 HM5.out.bel).2.1 (HPG.out w5 HM5.out.bel).2.2.1 (HPG.out w5 HM5.out.bel).2.2.2.1 (HPG.out w5 HM5.out.bel).2.2.2.2.1 (by have h:=(HPG.out w5 HM5.out.bel).2.2.2.2.2;exact h) HHO.out ((HIS.out.keep (Kp.of_below (bel_tr HB3.out HB5.out))).sl HBD.out HKS.out.2) (Nat.le_refl _) HKS.out.2 HFO.out HKS.out.1 hxo hN ba (by rw [HNN.out];exact HLE.out))
           go_wp2_with fail
           cases hef:efP p f x s with
           | error c =>
            rw [hef] at HEF HLK
            refine HEF.out.mono ?_
            rintro e w6 ⟨hb6,rfl⟩
            have HM6:=hide (HM5.out.up hb6)
            have hc0:(c != 0)=true:=by simpa using ef_err hef
            clear hb6 HEF p0 p1 p2 p3 f0 f1 f2 f3 f4 i0 i1 i2 ll0 ll2 ll3 hef
            have ro0:w6.cell? ⟨ob,0,none⟩=some (.slice (some ⟨cb,0,none⟩) L L):=cell_of HM6.out.out rfl
            have ro1:w6.cell? ⟨ob,1,none⟩=some (.slice (some ⟨sb,0,none⟩) L L):=cell_of HM6.out.out rfl
            have ro2:w6.cell? ⟨ob,2,none⟩=some (.int .i64 (F.mo:Int)):=cell_of HM6.out.out rfl
            have rz0:w6.cell? ⟨w.heap.size+1,0,none⟩=some (.slice none 0 0):=cell_of HM6.out.res rfl
            have rz1:w6.cell? ⟨w.heap.size+1,1,none⟩=some (.slice none 0 0):=cell_of HM6.out.res rfl
            have rz2:w6.cell? ⟨w.heap.size+1,2,none⟩=some (.int .i64 0):=cell_of HM6.out.res rfl
            have rf0:=frz HM6.out.res 0
            have rf1:=frz HM6.out.res 1
            have rf2:=frz HM6.out.res 2
            have hrl:w.heap.size+1<w6.heap.size:=lt_of_block HM6.out.res
            have HRET:=hide (HM6.out.ret (.slice (some ⟨cb,0,none⟩) L L) (.slice (some ⟨sb,0,none⟩) L L) (.int .i64 (F.mo:Int)))
            have HBADE:=hide (HERR.out c (HLK.out))
            go_wp2_with fail
            generalize hWF:((w6.setCell ⟨w.heap.size+1,0,none⟩ (.slice (some ⟨cb,0,none⟩) L L)).setCell ⟨w.heap.size+1,1,none⟩ (.slice (some ⟨sb,0,none⟩) L L)).setCell ⟨w.heap.size+1,2,none⟩ (.int .i64 (F.mo:Int))=WF
            obtain ⟨y0,y1,y2,hbF,hkF,hoF⟩:=HRET.out WF hWF
            change bodyPost Tryz.prog Tryz.f14 (LkO p f w) .ret _ WF
            refine bodyPost_ret (v:=.tuple #[.agg #[.slice (some ⟨cb,0,none⟩) L L,.slice (some ⟨sb,0,none⟩) L L,.int .i64 (F.mo:Int)],.int .i64 (i:Int),.int .i64 c]) (look_res rfl rfl rfl y0 y1 y2) rfl ?_
            exact ⟨hbF,.inl ⟨i,c,cb,sb,L,F.mo,HBADE.out,rfl⟩⟩
           | ok l =>
            rw [hef] at HEF HLK
            refine HEF.out.mono ?_
            rintro e w6 ⟨hb6,a6,c6,rfl,hO6⟩
            have HM6:=hide (HM5.out.up hb6)
            have HB6:=hide (bel_tr HB5.out hb6)
            have HO6:=hide hO6
            have HIS6:=hide (hO6.is (X:=XL cb sb ob lb (w.heap.size+1)) (fun j hj=>HM5.out.xl j hj))
            clear hb6 hO6 HEF p0 p1 p2 p3 f0 f1 f2 f3 f4 i0 i1 i2 ll0 ll2 ll3 hef
            have mo2:w6.cell? ⟨ob,2,none⟩=some (.int .i64 (F.mo:Int)):=cell_of HM6.out.out rfl
            have fr2:=frz HM6.out.out 2
            have hobw:ob<w6.heap.size:=lt_of_block HM6.out.out
            obtain ⟨mo,hmo⟩ : ∃ m,max F.mo l.length=m:=⟨_,rfl⟩
            have HLK2:=hide (show lkR p f i x s { F with wt:=F.wt.set i false }=if (nextsP x i).all (fun y=>inB y f.co.length) then comesP l (nextsP x i) { F with wt:=F.wt.set i false,mo:=mo } else .error 10 from by rw [← hmo];exact HLK.out)
            have HM7A:=hide (show F.mo<l.length→LkM w cb sb ob lb L #[.slice a1 p.ty.length d1,.slice (some ⟨g0,o0,none⟩) p.fu.length d2,.slice a3 p.ta.length d3,.slice a4 p.st.length d4] #[.int .i64 f.pa,.slice b1 f.lo.length x1,.slice b2 f.re.length x2,.slice b3 f.ar.length x3,.slice (some ⟨g5,o5,none⟩) L x4] { F with wt:=F.wt.set i false,mo:=mo } (lk.set i true) (w6.setCell ⟨ob,2,none⟩ (.int .i64 (l.length:Int)))∧Kp (XL cb sb ob lb (w.heap.size+1)) w6 (w6.setCell ⟨ob,2,none⟩ (.int .i64 (l.length:Int))) from fun h=>⟨by rw [← hmo,Nat.max_eq_right (Nat.le_of_lt h)];exact HM6.out.most l.length,sc_kp w6 _ _ (.inr (.inr (.inl rfl)))⟩)
            have HM7B:=hide (show ¬ F.mo<l.length→LkM w cb sb ob lb L #[.slice a1 p.ty.length d1,.slice (some ⟨g0,o0,none⟩) p.fu.length d2,.slice a3 p.ta.length d3,.slice a4 p.st.length d4] #[.int .i64 f.pa,.slice b1 f.lo.length x1,.slice b2 f.re.length x2,.slice b3 f.ar.length x3,.slice (some ⟨g5,o5,none⟩) L x4] { F with wt:=F.wt.set i false,mo:=mo } (lk.set i true) w6∧Kp (XL cb sb ob lb (w.heap.size+1)) w6 w6 from fun h=>⟨by rw [← hmo,Nat.max_eq_left (Nat.le_of_not_lt h)];exact HM6.out,Kp.refl _ _⟩)
            have HI7:=hide (show ∀ W:World,Kp (XL cb sb ob lb (w.heap.size+1)) w6 W→(W.cell? ⟨W2.heap.size,0,none⟩=some (.int .i64 x.o)∧W.cell? ⟨W2.heap.size,1,none⟩=some (.int .i64 x.a)∧W.cell? ⟨W2.heap.size,2,none⟩=some (.int .i64 x.b))∧W2.heap.size<W.heap.size from fun W h=>by
             obtain ⟨_,_,⟨i0,i1,i2⟩,_,_,l3⟩:=HC3.out w6 HB6.out
             have hb:=h.block W2.heap.size l3 (fun hx=>by have:=HM2.out.xl _ hx;omega)
             exact ⟨⟨(World.cell?_of_block (a:=⟨W2.heap.size,0,none⟩) hb).trans i0,(World.cell?_of_block (a:=⟨W2.heap.size,1,none⟩) hb).trans i1,(World.cell?_of_block (a:=⟨W2.heap.size,2,none⟩) hb).trans i2⟩,Nat.lt_of_lt_of_le l3 h.size⟩)
            clear hmo HLK
            go_upto_if 120 with (fail)
            go_cut [] from 121 to 123 (fun wc=>Hid (LkM w cb sb ob lb L #[.slice a1 p.ty.length d1,.slice (some ⟨g0,o0,none⟩) p.fu.length d2,.slice a3 p.ta.length d3,.slice a4 p.st.length d4] #[.int .i64 f.pa,.slice b1 f.lo.length x1,.slice b2 f.re.length x2,.slice b3 f.ar.length x3,.slice (some ⟨g5,o5,none⟩) L x4] { F with wt:=F.wt.set i false,mo:=mo } (lk.set i true) wc∧Kp (XL cb sb ob lb (w.heap.size+1)) w6 wc))
            case first =>
             by_cases hmo:F.mo<l.length
             · have dmo:decide (F.mo<l.length)=true:=by simpa using hmo
               have dmo2:decide ((F.mo:Int)<(l.length:Int))=true:=by simpa using hmo
               have HH:=hide (HM7A.out hmo)
               go_wp2_with fail
               go_meet
               exact hide HH.out
             · have dmo:decide (F.mo<l.length)=false:=by simpa using hmo
               have dmo2:decide ((F.mo:Int)<(l.length:Int))=false:=by simpa using hmo
               have HH:=hide (HM7B.out hmo)
               go_wp2_with fail
               go_meet
               exact hide HH.out
            case rest =>
             obtain ⟨w7,hw7⟩ : ∃ W,W=wc:=⟨_,rfl⟩
             subst hw7
             have HM7:=hide hcut.out.1
             have HK67:=hide hcut.out.2
             clear hcut HM7A HM7B mo2 fr2 hobw
             obtain ⟨⟨i0,i1,i2⟩,ll3⟩:=HI7.out w7 HK67.out
             have HTG:=hide (rtargets_any (w:=w7) (o:=x.o) (a:=x.a) (b:=x.b) (t:=i) ba (by omega))
             go_wp2_with fail
             refine HTG.out.mono ?_
             rintro e w8 ⟨hb8,a8,c8,rfl,hs8,hi8⟩
             have HM8:=hide (HM7.out.up hb8)
             have HN8:=hide hs8
             have HIS8:=hide ((HIS6.out.keep HK67.out).keep (Kp.of_below hb8))
             have HNI:=hide (hi8.sub (X:=XL cb sb ob lb (w.heap.size+1)) (fun j _ hx=>HM7.out.xl j hx))
             clear hb8 hs8 hi8 HTG i0 i1 i2
             obtain ⟨ns,hns⟩ : ∃ ns,nextsP ⟨x.o,x.a,x.b⟩ i=ns:=⟨_,rfl⟩
             rw [hns] at HN8 HNI
             rw [hns]
             have HNS:=hide (show nextsP x i=ns from hns)
             clear hns
             obtain ⟨N,hNl⟩ : ∃ N,ns.length=N:=⟨_,rfl⟩
             rw [hNl] at HN8 HNI ⊢
             have HNL:=hide hNl
             have HN2:=hide (show N≤2 from by rw [← hNl,← HNS.out];unfold nextsP;split;simp;split;simp;split <;> simp)
             have hN2:=HN2.out
             clear hNl
             go_wp2_with fail
             go_loopw [17] (fun a wr'=>LnR (fun y=>inB y f.co.length) ns w8 a wr') (fun a _=>N - (intOf a).toNat)
             case atStart=>exact ⟨0,rfl,Nat.zero_le _,by simp,rfl⟩
             case round =>
              obtain ⟨t,rfl,ht,hall,hw9⟩:=hrel
              rw [hw9]
              clear hw9
              have HALT:=hide hall
              rw [HNL.out] at ht
              clear hall
              by_cases htl:t<N
              · obtain ⟨y,hy⟩ : ∃ y,ns[t]?=some y:=⟨ns[t]'(by rw [HNL.out];exact htl),by simp⟩
                obtain ⟨gn,on,cn,hvn,hgn,hcn,_,_⟩:=il_at (by have h:=HN8.out;rw [← HNL.out] at h;exact h) hy
                cases hvn
                have dtn:decide (t<N)=true:=by simpa using htl
                have dtj:(t:Int)≤65536:=by omega
                have HIN:=hide (rin_any w8 y L)
                have HY:=hide hy
                clear hy
                cases hin:inB y L with
                | true =>
                 rw [hin] at HIN
                 have HNX:=hide (rall_next (q:=fun y=>inB y f.co.length) HY.out HALT.out (by show inB y f.co.length=true;rw [HLC.out];exact hin))
                 clear hin
                 go_wp2_with fail
                 refine HIN.out.mono ?_
                 rintro e w9 ⟨rfl,hw9⟩
                 rw [hw9]
                 clear hw9
                 go_wp2
                 go_roundw
                 case rel=>exact ⟨t+1,by first | exact num_next htl (by omega) | go_num,by rw [HNL.out];exact htl,HNX.out,rfl⟩
                 case measure=>first | exact meas_int htl (by omega) | (rw [intOf_int,intOf_int];omega)
                | false =>
                 rw [hin] at HIN
                 have HNA:=hide (rall_not (q:=fun y=>inB y f.co.length) HY.out (by show inB y f.co.length=false;rw [HLC.out];exact hin))
                 clear hin
                 go_wp2_with fail
                 refine HIN.out.mono ?_
                 rintro e w9 ⟨rfl,hw9⟩
                 rw [hw9]
                 clear hw9
                 have ro0:w8.cell? ⟨ob,0,none⟩=some (.slice (some ⟨cb,0,none⟩) L L):=cell_of HM8.out.out rfl
                 have ro1:w8.cell? ⟨ob,1,none⟩=some (.slice (some ⟨sb,0,none⟩) L L):=cell_of HM8.out.out rfl
                 have ro2:w8.cell? ⟨ob,2,none⟩=some (.int .i64 (mo:Int)):=cell_of HM8.out.out rfl
                 have rz0:w8.cell? ⟨w.heap.size+1,0,none⟩=some (.slice none 0 0):=cell_of HM8.out.res rfl
                 have rz1:w8.cell? ⟨w.heap.size+1,1,none⟩=some (.slice none 0 0):=cell_of HM8.out.res rfl
                 have rz2:w8.cell? ⟨w.heap.size+1,2,none⟩=some (.int .i64 0):=cell_of HM8.out.res rfl
                 have rf0:=frz HM8.out.res 0
                 have rf1:=frz HM8.out.res 1
                 have rf2:=frz HM8.out.res 2
                 have hrl:w.heap.size+1<w8.heap.size:=lt_of_block HM8.out.res
                 have HRET:=hide (HM8.out.ret (.slice (some ⟨cb,0,none⟩) L L) (.slice (some ⟨sb,0,none⟩) L L) (.int .i64 (mo:Int)))
                 have HBADE:=hide (HERR.out 10 (HLK2.out.trans (if_neg (by rw [HNS.out,HNA.out];decide))))
                 go_wp2_with fail
                 generalize hWF:((w8.setCell ⟨w.heap.size+1,0,none⟩ (.slice (some ⟨cb,0,none⟩) L L)).setCell ⟨w.heap.size+1,1,none⟩ (.slice (some ⟨sb,0,none⟩) L L)).setCell ⟨w.heap.size+1,2,none⟩ (.int .i64 (mo:Int))=WF
                 obtain ⟨y0,y1,y2,hbF,hkF,hoF⟩:=HRET.out WF hWF
                 change bodyPost Tryz.prog Tryz.f14 (LkO p f w) .ret _ WF
                 refine bodyPost_ret (v:=.tuple #[.agg #[.slice (some ⟨cb,0,none⟩) L L,.slice (some ⟨sb,0,none⟩) L L,.int .i64 (mo:Int)],.int .i64 (i:Int),.int .i64 10]) (look_res rfl rfl rfl y0 y1 y2) rfl ?_
                 exact ⟨hbF,.inl ⟨i,10,cb,sb,L,mo,HBADE.out,rfl⟩⟩
              · obtain rfl:N=t:=by omega
                have dtn:decide (N<N)=false:=by simp
                have HCM:=hide (show lkR p f i x s { F with wt:=F.wt.set i false }=comesP l ns { F with wt:=F.wt.set i false,mo:=mo } from by rw [HLK2.out,HNS.out,if_pos (by have h:=HALT.out;rw [List.take_of_length_le (by rw [HNL.out];exact Nat.le_refl _)] at h;exact h)])
                have HIB:=hide (show ∀ (t:Nat) (y:Int),ns[t]?=some y→∃ z:Nat,y=(z:Int)∧z<L from fun t y hy=>by
                 have h:=HALT.out
                 rw [List.take_of_length_le (by rw [HNL.out];exact Nat.le_refl _)] at h
                 have h2:=in_nat (List.all_eq_true.mp h y (List.mem_of_getElem? hy))
                 rw [HLC.out] at h2
                 exact h2)
                clear HALT HLK2
                go_wp2_with fail
                go_loopw [18] (fun a wr'=>CmR w cb sb ob lb L #[.slice a1 p.ty.length d1,.slice (some ⟨g0,o0,none⟩) p.fu.length d2,.slice a3 p.ta.length d3,.slice a4 p.st.length d4] #[.int .i64 f.pa,.slice b1 f.lo.length x1,.slice b2 f.re.length x2,.slice b3 f.ar.length x3,.slice (some ⟨g5,o5,none⟩) L x4] l ns { F with wt:=F.wt.set i false,mo:=mo } (lk.set i true) w8 a wr') (fun a _=>N - (intOf a).toNat)
                case atStart=>exact ⟨0,_,rfl,Nat.zero_le _,rfl,HM8.out,Kp.refl _ _⟩
                case round =>
                 obtain ⟨t,G,rfl,ht,hcs,hMG,hk9⟩:=hrel
                 obtain ⟨w9,hw9⟩ : ∃ W,W=wr:=⟨_,rfl⟩
                 subst hw9
                 rw [HNL.out] at ht
                 have HCS:=hide hcs
                 have HMG:=hide hMG
                 have HK9:=hide hk9
                 clear hcs hMG hk9
                 by_cases htl:t<N
                 · obtain ⟨y,hy⟩ : ∃ y,ns[t]?=some y:=⟨ns[t]'(by rw [HNL.out];exact htl),by simp⟩
                   obtain ⟨gn,on,cn,hvn,hgn,hcn,_,_⟩:=il_at (by have h:=HN8.out;rw [← HNL.out] at h;exact h) hy
                   cases hvn
                   obtain ⟨z,rfl,hz⟩:=HIB.out t y hy
                   have hcn9:w9.cell? ⟨gn,on+t,none⟩=some (.int .i64 (z:Int)):=by
                    obtain ⟨ao,cap,h1,_,_,h4⟩:=(HNI.out.keep HK9.out)
                    obtain ⟨g,o,e1,_,_,e4⟩:=h4 t _ hy
                    rw [e1] at h1
                    cases h1
                    exact e4
                   have dtn2:decide (t<N)=true:=by simpa using htl
                   have dtj:(t:Int)≤65536:=by omega
                   have hg9:gn<w9.heap.size:=Nat.lt_of_lt_of_le hgn HK9.out.size
                   have hzj:(z:Int)≤65536:=by omega
                   have dz:decide (z<L)=true:=by simpa using hz
                   have HY:=hide hy
                   have ro0:w9.cell? ⟨ob,0,none⟩=some (.slice (some ⟨cb,0,none⟩) L L):=cell_of HMG.out.out rfl
                   have ro1:w9.cell? ⟨ob,1,none⟩=some (.slice (some ⟨sb,0,none⟩) L L):=cell_of HMG.out.out rfl
                   obtain ⟨o,ho⟩ : ∃ o,G.ah[z]?=some o:=⟨G.ah[z]'(by rw [HMG.out.la];exact hz),by simp⟩
                   have rc:w9.cell? ⟨cb,z,none⟩=some (.bool o.isSome):=cell_of HMG.out.cm (by simp [cvs,ho])
                   obtain ⟨scs,q1,q2,q3⟩:=HMG.out.st
                   obtain ⟨cv,hcv,hstk⟩:=q3 z o ho
                   have rs:w9.cell? ⟨sb,z,none⟩=some cv:=cell_of q1 (by rw [List.getElem?_toArray];exact hcv)
                   have hob9:ob<w9.heap.size:=lt_of_block HMG.out.out
                   have hcb9:cb<w9.heap.size:=lt_of_block HMG.out.cm
                   have hsb9:sb<w9.heap.size:=lt_of_block q1
                   have fc:=frz HMG.out.cm z
                   have fs:=frz q1 z
                   have HISN:=hide (HIS8.out.keep HK9.out)
                   have HSTK:=hide hstk
                   have HO:=hide ho
                   clear hy hcn q2 q3 hcv hstk ho q1
                   have HNEXT:=hide (show ∀ (W:World) (K:Fl),Below w9.heap.size w9 W→comeP G z l=.ok K→CmR w cb sb ob lb L #[.slice a1 p.ty.length d1,.slice (some ⟨g0,o0,none⟩) p.fu.length d2,.slice a3 p.ta.length d3,.slice a4 p.st.length d4] #[.int .i64 f.pa,.slice b1 f.lo.length x1,.slice b2 f.re.length x2,.slice b3 f.ar.length x3,.slice (some ⟨g5,o5,none⟩) L x4] l ns { F with wt:=F.wt.set i false,mo:=mo } (lk.set i true) w8 (.int .i64 ((t+1:Nat):Int)) ((W.setCell ⟨cb,z,none⟩ (.bool true)).setCell ⟨sb,z,none⟩ (.slice a6 l.length c6)) from fun W K hb hc=>by
                    have hM:=(HMG.out.up hb).come hz hc (HISN.out.keep (Kp.of_below hb)) HO6.out.2
                    refine ⟨t+1,K,rfl,by rw [HNL.out];exact htl,?_,hM,(HK9.out.trans (Kp.of_below hb)).trans ((sc_kp W _ _ (.inl rfl)).trans (sc_kp _ _ _ (.inr (.inl rfl))))⟩
                    rw [(take_rest2 HY.out).1,comes_snoc HCS.out,Int.toNat_natCast]
                    exact hc)
                   cases o with
                   | none =>
                    have hcv:cv=.slice none 0 0:=HSTK.out
                    subst hcv
                    have HNN2:=hide (HNEXT.out w9 _ (Below.refl _ _) (by unfold comeP;rw [HO.out];rfl))
                    clear HNEXT HSTK HISN
                    go_wp2
                    go_roundw
                    case rel=>exact num_next htl (by omega) ▸ HNN2.out
                    case measure=>first | exact meas_int htl (by omega) | (rw [intOf_int,intOf_int];omega)
                   | some s9 =>
                    obtain ⟨sa9,sc9,hcv2⟩ : ∃ a c,cv=.slice a s9.length c:=by obtain ⟨a,c,h,_⟩:=HSTK.out.1;exact ⟨a,c,h⟩
                    subst hcv2
                    have HSM:=hide (rsame_any (HSTK.out.1.sl0 HSTK.out.2) (HISN.out.sl0 HO6.out.2) (Nat.le_refl _) (Nat.le_refl _))
                    by_cases hse:s9=l
                    · have HNN2:=hide (fun (W:World) (hb:Below w9.heap.size w9 W)=>HNEXT.out W _ hb (by unfold comeP;rw [HO.out,Option.getD_some,hse];exact if_pos rfl))
                      rw [decide_eq_true hse] at HSM
                      have HCL:=hide (show ∀ W:World,Below w9.heap.size w9 W→(W.cell? ⟨ob,0,none⟩=some (.slice (some ⟨cb,0,none⟩) L L)∧W.cell? ⟨ob,1,none⟩=some (.slice (some ⟨sb,0,none⟩) L L)∧W.cell? ⟨cb,z,none⟩=some (.bool true)∧W.cell? ⟨sb,z,none⟩=some (.slice sa9 s9.length sc9))∧(ob<W.heap.size∧cb<W.heap.size∧sb<W.heap.size)∧W.frozen? ⟨cb,z,none⟩=false∧W.frozen? ⟨sb,z,none⟩=false from fun W hb=>by
                       have M:=HMG.out.up hb
                       obtain ⟨scs,q1,_⟩:=M.st
                       exact ⟨⟨(hb.cell (p:=⟨ob,0,none⟩) hob9).trans ro0,(hb.cell (p:=⟨ob,1,none⟩) hob9).trans ro1,(hb.cell (p:=⟨cb,z,none⟩) hcb9).trans rc,(hb.cell (p:=⟨sb,z,none⟩) hsb9).trans rs⟩,⟨lt_of_block M.out,lt_of_block M.cm,lt_of_block q1⟩,frz M.cm z,frz q1 z⟩)
                      clear HNEXT HSTK HISN hse
                      go_upto_region 32 with (fail)
                      go_wp2_with fail
                      refine HSM.out.mono ?_
                      rintro e w10 ⟨rfl,hb10⟩
                      obtain ⟨⟨k1,k2,k3,k4⟩,⟨k5,k6,k7⟩,k8,k9⟩:=HCL.out w10 hb10
                      have HNN3:=hide (HNN2.out w10 hb10)
                      clear hb10 HSM HNN2 HCL ro0 ro1 rc rs hob9 hcb9 hsb9 fc fs hcn9 hg9
                      go_wp2
                      go_roundw
                      case rel=>exact num_next htl (by omega) ▸ HNN3.out
                      case measure=>first | exact meas_int htl (by omega) | (rw [intOf_int,intOf_int];omega)
                    · have HBAD:=hide (show lkR p f i x s { F with wt:=F.wt.set i false }=.error 9 from by
                       rw [HCM.out,(take_rest2 HY.out).2]
                       exact comes_bad HCS.out (by rw [Int.toNat_natCast];unfold comeP;rw [HO.out,Option.getD_some];exact if_neg hse))
                      rw [decide_eq_false hse] at HSM
                      clear HNEXT HSTK HISN hse
                      go_upto_region 32 with (fail)
                      go_wp2_with fail
                      refine HSM.out.mono ?_
                      rintro e w10 ⟨rfl,hb10⟩
                      have HM10:=hide (HMG.out.up hb10)
                      clear hb10 HSM ro0 ro1 rc rs hob9 hcb9 hsb9 fc fs hcn9 hg9
                      have HM11:=HM10
                      clear HM10
                      have ro0:w10.cell? ⟨ob,0,none⟩=some (.slice (some ⟨cb,0,none⟩) L L):=cell_of HM11.out.out rfl
                      have ro1:w10.cell? ⟨ob,1,none⟩=some (.slice (some ⟨sb,0,none⟩) L L):=cell_of HM11.out.out rfl
                      have ro2:w10.cell? ⟨ob,2,none⟩=some (.int .i64 (G.mo:Int)):=cell_of HM11.out.out rfl
                      have rz0:w10.cell? ⟨w.heap.size+1,0,none⟩=some (.slice none 0 0):=cell_of HM11.out.res rfl
                      have rz1:w10.cell? ⟨w.heap.size+1,1,none⟩=some (.slice none 0 0):=cell_of HM11.out.res rfl
                      have rz2:w10.cell? ⟨w.heap.size+1,2,none⟩=some (.int .i64 0):=cell_of HM11.out.res rfl
                      have rf0:=frz HM11.out.res 0
                      have rf1:=frz HM11.out.res 1
                      have rf2:=frz HM11.out.res 2
                      have hrl:w.heap.size+1<w10.heap.size:=lt_of_block HM11.out.res
                      have HRET:=hide (HM11.out.ret (.slice (some ⟨cb,0,none⟩) L L) (.slice (some ⟨sb,0,none⟩) L L) (.int .i64 (G.mo:Int)))
                      have HBADE:=hide (HERR.out 9 (HBAD.out))
                      go_wp2_with fail
                      generalize hWF:((w10.setCell ⟨w.heap.size+1,0,none⟩ (.slice (some ⟨cb,0,none⟩) L L)).setCell ⟨w.heap.size+1,1,none⟩ (.slice (some ⟨sb,0,none⟩) L L)).setCell ⟨w.heap.size+1,2,none⟩ (.int .i64 (G.mo:Int))=WF
                      obtain ⟨y0,y1,y2,hbF,hkF,hoF⟩:=HRET.out WF hWF
                      change bodyPost Tryz.prog Tryz.f14 (LkO p f w) .ret _ WF
                      refine bodyPost_ret (v:=.tuple #[.agg #[.slice (some ⟨cb,0,none⟩) L L,.slice (some ⟨sb,0,none⟩) L L,.int .i64 (G.mo:Int)],.int .i64 (i:Int),.int .i64 9]) (look_res rfl rfl rfl y0 y1 y2) rfl ?_
                      exact ⟨hbF,.inl ⟨i,9,cb,sb,L,G.mo,HBADE.out,rfl⟩⟩
                 · obtain rfl:N=t:=by omega
                   have HFIN:=hide (HGO.out G (HCM.out.trans (by have h:=HCS.out;rw [List.take_of_length_le (by rw [HNL.out];exact Nat.le_refl _)] at h;exact h)))
                   have HLT:=hide (show unl lb w9<unl lb WR from by have h:=HUN.out;rw [HM2.out.unl] at h;rw [HMG.out.unl];exact h)
                   go_wp2
                   go_roundw
                   case rel=>exact ⟨G,_,k',j+1,HMG.out,HFIN.out.1,HFIN.out.2.1,HFIN.out.2.2.1,HFIN.out.2.2.2⟩
                   case measure=>exact HLT.out
    · obtain rfl:L=i:=by omega
      have ddi:decide (L<L)=false:=by simp
      have hlea:leastP F.wt=none:=least_all (fun k hk=>HALL.out k (by rw [HM.out.lw] at hk;exact hk))
      have hfol:followP p f=.ok F:=by
       rw [← HRUN.out]
       have:=HMM.out
       match k,this with
       | k+1,_=>unfold runP;rw [hlea]
      have HFOL:=hide hfol
      clear hlea hfol
      have cr0:WR.cell? ⟨ob,1,none⟩=some (.slice (some ⟨sb,0,none⟩) L L):=cell_of HM.out.out rfl
      have cr1:WR.cell? ⟨ob,2,none⟩=some (.int .i64 (F.mo:Int)):=cell_of HM.out.out rfl
      have rz0:WR.cell? ⟨w.heap.size+1,0,none⟩=some (.slice none 0 0):=cell_of HM.out.res rfl
      have rz1:WR.cell? ⟨w.heap.size+1,1,none⟩=some (.slice none 0 0):=cell_of HM.out.res rfl
      have rz2:WR.cell? ⟨w.heap.size+1,2,none⟩=some (.int .i64 0):=cell_of HM.out.res rfl
      have rf0:=frz HM.out.res 0
      have rf1:=frz HM.out.res 1
      have rf2:=frz HM.out.res 2
      have hrl:w.heap.size+1<WR.heap.size:=lt_of_block HM.out.res
      have HRET:=hide (HM.out.ret (.slice (some ⟨cb,0,none⟩) L L) (.slice (some ⟨sb,0,none⟩) L L) (.int .i64 (F.mo:Int)))
      go_wp2
      generalize hWF:((WR.setCell ⟨w.heap.size+1,0,none⟩ (.slice (some ⟨cb,0,none⟩) L L)).setCell ⟨w.heap.size+1,1,none⟩ (.slice (some ⟨sb,0,none⟩) L L)).setCell ⟨w.heap.size+1,2,none⟩ (.int .i64 (F.mo:Int))=WF
      obtain ⟨y0,y1,y2,hbF,hkF,hoF⟩:=HRET.out WF hWF
      refine bodyPost_ret (v:=.tuple #[.agg #[.slice (some ⟨cb,0,none⟩) L L,.slice (some ⟨sb,0,none⟩) L L,.int .i64 (F.mo:Int)],.int .i64 0,.int .i64 0]) (look_res rfl rfl rfl y0 y1 y2) rfl ?_
      obtain ⟨scs,q1,q2,q3⟩:=HM.out.st
      have hd1:=HM.out.d1
      refine ⟨hbF,.inr ⟨F,cb,sb,HFOL.out,by rw [HLC.out],by rw [HLC.out];exact HM.out.la,(hoF cb (by omega)).trans HM.out.cm,scs,XL cb sb ob lb (w.heap.size+1),(hoF sb (by omega)).trans q1,by rw [HLC.out];exact q2,fun x o ho=>?_⟩⟩
      obtain ⟨c,c1,c2⟩:=q3 x o ho
      exact ⟨c,c1,c2.keep hkF⟩
end
end Go.Proofs.YtkdojpnihinpbaaGreatDoor
