/- The pile's down: the iterator, whose rounds may panic. -/
import Derived.Test.YtkdojpnihinpbaaGreatDoorVfKJo
import Derived.Test.YtkdojpnihinpbaaGreatDoorVfPcJo
namespace Go.Proofs.YtkdojpnihinpbaaGreatDoor
open Go.RowKit Go.Shelf
attribute [local go_sem] Oper.semAt_some
def FX:Fence:={ Fence.wide with fn:=fun f=>f<105 }
theorem FX_fn {f:Nat} (h:f<105):FX.fn f:=h
theorem funcs_all:decide (105≤Tryz.prog.funcs.size)=true:=by kernel_rfl
theorem FX_ex {f:Nat} (h:FX.fn f):∃ g,Tryz.prog.funcs[f]?=some g:=by
 have h1:f<105:=h
 have h2:105≤Tryz.prog.funcs.size:=of_decide_eq_true funcs_all
 exact ⟨_,Array.getElem?_eq_getElem (by omega)⟩
def ItO (J:World→Prop) (Jp:List PanicEntry→World→Prop) (e:Ending) (W:World):Prop:=(∃ v,e=.returned v∧J W)∨∃ ch,e=.panicked ch∧Jp ch W
def marks (ds:List Nat):List Deferred:=ds.map fun D=>{ target:=.collected D,args:=#[] }
structure But (X:Nat→Prop) (w w' : World):Prop where
  os:w'.os=w.os
  tape:w'.tape=w.tape
  output:w'.output=w.output
  size:w'.heap.size=w.heap.size
  block:∀ j,¬ X j→w'.heap[j]?=w.heap[j]?
theorem But.kp {X:Nat→Prop} {w w' : World} (h:But X w w'):Kp X w w':=⟨h.os,h.tape,h.output,Nat.le_of_eq h.size.symm,fun j _ hx=>h.block j hx⟩
theorem But.put (w:World) (r:Nat) (o:Obj):But (fun j=>j=r) w (w.putObj r o):=⟨rfl,rfl,rfl,World.putObj_size,fun _ hj=>World.putObj_heap_other hj⟩
theorem But.trans {X:Nat→Prop} {a b c:World} (h:But X a b) (g:But X b c):But X a c:=⟨g.os.trans h.os,g.tape.trans h.tape,g.output.trans h.output,g.size.trans h.size,fun j hj=>(g.block j hj).trans (h.block j hj)⟩
theorem But.mono {X Y:Nat→Prop} {w w' : World} (h:But X w w') (hs:∀ j,X j→Y j):But Y w w':=⟨h.os,h.tape,h.output,h.size,fun j hy=>h.block j (fun hx=>hy (hs j hx))⟩
theorem But.refl (X:Nat→Prop) (w:World):But X w w:=⟨rfl,rfl,rfl,rfl,fun _ _=>rfl⟩
section
variable {F:Fence} {n:Nat} {P:Program}
theorem leave_marks {fn:Func} {tmps:Array Value} {R:Ending→World→Prop} {u:FrameMode} (hu:u≠.run):∀ (ds:List Nat) (w:World),ds.Nodup→(∀ D∈ds,w.heap[D]?=some (.deferred (some [])))→(∀ w',But (fun j=>j∈ds) w w'→LeavesIn F n P fn tmps R [] u w')→LeavesInM F n P fn tmps R (marks ds) u w
  | [],w,_,_,h=>h w (But.refl _ _)
  | D :: ds,w,hn,hd,h=>by
   refine ⟨hu,.inl ⟨D,_,rfl,run_takeDeferred (hd D (by simp)),?_⟩⟩
   rw [List.nodup_cons] at hn
   refine leave_marks hu ds _ hn.2 (fun D' hD'=>?_) (fun w' hw'=>h w' ?_)
   · rw [World.putObj_heap_other (fun e=>hn.1 (by rw [← e];exact hD'))]
     exact hd D' (by simp [hD'])
   · exact ((But.put w D _).mono (fun j hj=>by simp [hj])).trans (hw'.mono (fun j hj=>by simp [hj]))
end
theorem sc_os (w:World) (a:Addr) (u:Value):(w.setCell a u).os=w.os:=rfl
theorem sc_tape (w:World) (a:Addr) (u:Value):(w.setCell a u).tape=w.tape:=rfl
theorem sc_output (w:World) (a:Addr) (u:Value):(w.setCell a u).output=w.output:=rfl
theorem IsAt.upto {X:Nat→Prop} {w:World} {v:Value} {ks:List Int} (R:IsAt X w v ks) {D:Nat} (hD:w.heap.size≤D):IsAt (fun j=>X j∨D≤j) w v ks:=by
 obtain ⟨ao,cap,h1,h2,h3,h4⟩:=R
 refine ⟨ao,cap,h1,h2,h3,fun j k hk=>?_⟩
 obtain ⟨g,o,e1,e2,e3,e4⟩:=h4 j k hk
 exact ⟨g,o,e1,e2,fun h=>h.elim e3 (fun h=>by omega),e4⟩
theorem PileAt.upto {X:Nat→Prop} {w:World} {E D:Nat} (hD:w.heap.size≤D):∀ {b:Nat} {l:List Int},PileAt X w E b l→PileAt (fun j=>X j∨D≤j) w E b l:=by
 intro b l R
 induction R with
 | nil h1 h2=>exact .nil h1 (fun h=>h.elim h2 (fun h=>by have:=lt_of_block h1;omega))
 | cons h1 h2 h3 h4 _ ih=>exact .cons h1 (fun h=>h.elim h2 (fun h=>by have:=lt_of_block h1;omega)) h3 (h4.upto hD) ih
theorem PileAt.notin {X:Nat→Prop} {w:World} {E b:Nat} {l:List Int} (R:PileAt X w E b l):¬ X b:=by
 cases R with
 | nil _ h=>exact h
 | cons _ h _ _ _=>exact h
theorem idx_take {s s0 ks:List Int} {k j:Nat} {x:Int} (h:s.take (s.length - k)=s0++ks) (hj:j<ks.length) (hx:ks[ks.length - 1 - j]?=some x) (hk:k≤s.length):s[s.length - 1 - (k+j)]?=some x:=by
 have hl:=congrArg List.length h
 rw [List.length_take,List.length_append,Nat.min_eq_left (by omega)] at hl
 have h1:(s0++ks)[s.length - 1 - (k+j)]?=some x:=by
  rw [List.getElem?_append_right (by omega)]
  rw [show s.length - 1 - (k+j) - s0.length=ks.length - 1 - j by omega]
  exact hx
 rw [← h,List.getElem?_take,if_pos (by omega)] at h1
 exact h1
theorem take_rest {s s0 ks:List Int} {k:Nat} (h:s.take (s.length - k)=s0++ks) (hk:k≤s.length):s.take (s.length - (k+ks.length))=s0:=by
 have hl:=congrArg List.length h
 rw [List.length_take,List.length_append,Nat.min_eq_left (by omega)] at hl
 have h1:(s.take (s.length - k)).take s0.length=s0:=by rw [h,List.take_left]
 rw [List.take_take,Nat.min_eq_left (by omega)] at h1
 rw [show s.length - (k+ks.length)=s0.length by omega]
 exact h1
structure DnC (m:Nat) (X:Nat→Prop) (D l n:Nat) (s:List Int) (J:Nat→World→Prop) (Jp:List PanicEntry→World→Prop):Prop where
  len:n≤s.length
  most:s.length≤4000000000000
  hX:∀ j,X j→j<D
  st:∀ k W W',J k W→Kp (fun j=>D≤j) W W'→J k W'
  stp:∀ ch W W',Jp ch W→Kp (fun j=>D≤j) W W'→Jp ch W'
  yi:∀ k W,J k W→k<n→∀ x,s[s.length - 1 - k]?=some x→YieldAt FX m Tryz.prog l #[.int .i64 ((n - 1 - k:Nat):Int),.int .i64 x] W fun e W'=>(e=.returned (.bool true)∧J (k+1) W'∧Kp X W W')∨∃ ch,e=.panicked ch∧Jp ch W'∧Kp X W W'
section
variable {m' : Nat} {X:Nat→Prop} {E b D l n nb pb:Nat} {s:List Int} {J:Nat→World→Prop} {Jp:List PanicEntry→World→Prop}
structure DnS (X:Nat→Prop) (E D l n:Nat) (s:List Int) (J:Nat→World→Prop) (k b1:Nat) (ds:List Nat) (w:World):Prop where
  kn:k≤n
  pile:PileAt (fun j=>X j∨D≤j) w E b1 (s.take (s.length - k))
  j:J k w
  bx:w.heap[D]?=some (.cells #[.func (.yield l) #[] #[]] 89 (0,0))
  ci:w.heap[D+1]?=some (.cells #[.int .i64 ((n - k:Nat):Int)] 3 (0,0))
  nd:ds.Nodup
  ma:∀ d∈ds,D+2≤d∧w.heap[d]?=some (.deferred (some []))
def DnI (X:Nat→Prop) (E b D l n nb pb:Nat) (s:List Int) (J:Nat→World→Prop) (a:Act) (w:World):Prop :=
  ∃ (k b1:Nat) (ds:List Nat) (u10 u11 u12 u13 u14 u15 u16 u17 u18 u19 u20:Value),DnS X E D l n s J k b1 ds w∧a=⟨#[.func (.yield l) #[] #[],.pointer (some ⟨nb,0,none⟩),.pointer (some ⟨pb,0,none⟩),.pointer (some ⟨D,0,none⟩),.pointer (some ⟨D+1,0,none⟩),pp b1,undef,undef,.int .i64 (n:Int),pp b,u10,u11,u12,u13,u14,u15,u16,u17,u18,u19,u20,undef,undef,undef,undef,undef,undef,undef,undef,undef,undef,undef,undef,undef],marks ds⟩
def DnM (D:Nat) (_:Act) (w:World):Nat:=match w.cell? ⟨D+1,0,none⟩ with
  | some v=>(intOf v).toNat
  | none=>0
structure Dn2 (D l n k:Nat) (ds:List Nat) (c0 D2:Nat) (v:Value) (j:Nat) (W:World):Prop where
  bx:W.heap[D]?=some (.cells #[.func (.yield l) #[] #[]] 89 (0,0))
  ci:W.heap[D+1]?=some (.cells #[.int .i64 ((n:Int) - (k+j:Nat))] 3 (0,0))
  c0:W.heap[c0]?=some (.cells #[v] 37 (0,0))
  d2:W.heap[D2]?=some (.deferred (some []))
  ma:∀ d∈ds,W.heap[d]?=some (.deferred (some []))
theorem Dn2.keep {D l n k:Nat} {ds:List Nat} {c0 D2:Nat} {v:Value} {j:Nat} {W W' : World} (S:Dn2 D l n k ds c0 D2 v j W) (hd:∀ d∈ds,D+2≤d) (h1:D+2≤c0) (h2:D+2≤D2) (h:Kp (fun j=>j<D) W W'):Dn2 D l n k ds c0 D2 v j W' :=
  ⟨(h.block D (lt_of_block S.bx) (by omega)).trans S.bx,(h.block _ (lt_of_block S.ci) (by omega)).trans S.ci,(h.block _ (lt_of_block S.c0) (by omega)).trans S.c0,(h.block _ (lt_of_block S.d2) (by omega)).trans S.d2,fun d hm=>(h.block d (lt_of_block (S.ma d hm)) (by have:=hd d hm;omega)).trans (S.ma d hm)⟩
theorem Dn2.put {D l n k:Nat} {ds:List Nat} {c0 D2:Nat} {v:Value} {j:Nat} {W:World} (S:Dn2 D l n k ds c0 D2 v j W) {r:Nat} (o:Obj) (h0:r≠D) (h1:r≠D+1) (h2:r≠c0) (h3:r≠D2) (h4:r ∉ ds):Dn2 D l n k ds c0 D2 v j (W.putObj r o) :=
  ⟨(World.putObj_heap_other (Ne.symm h0)).trans S.bx,(World.putObj_heap_other (Ne.symm h1)).trans S.ci,(World.putObj_heap_other (Ne.symm h2)).trans S.c0,(World.putObj_heap_other (Ne.symm h3)).trans S.d2,fun d hm=>(World.putObj_heap_other (fun e=>h4 (by rw [← e];exact hm))).trans (S.ma d hm)⟩
theorem Dn2.set {D l n k:Nat} {ds:List Nat} {c0 D2:Nat} {v:Value} {j:Nat} {W:World} (S:Dn2 D l n k ds c0 D2 v j W) (hd:∀ d∈ds,D+2≤d) (h1:D+2≤c0) (h2:D+2≤D2):Dn2 D l n k ds c0 D2 v (j+1) (W.setCell ⟨D+1,0,none⟩ (.int .i64 ((n:Int) - (k+(j+1):Nat)))) :=
  have hk:∀ q,q≠D+1→(W.setCell ⟨D+1,0,none⟩ (.int .i64 ((n:Int) - (k+(j+1):Nat)))).heap[q]?=W.heap[q]?:=fun q hq=>Below.heap_setCell _ _ _ q hq
  ⟨(hk D (by omega)).trans S.bx,heap_setCell_same _ _ 0 _ S.ci,(hk _ (by omega)).trans S.c0,(hk _ (by omega)).trans S.d2,fun d hm=>(hk d (by have:=hd d hm;omega)).trans (S.ma d hm)⟩
set_option maxRecDepth 100000 in
set_option maxHeartbeats 2000000 in
theorem down1_in (C:DnC (m' - 1 - 1 - 1) X D l n s J Jp) {W:World} (hp:PileAt X W E b s) (hD:W.heap.size=D) (h0:J 0 W) (cn:W.cell? ⟨nb,0,none⟩=some (.int .i64 n)) (cp:W.cell? ⟨pb,0,none⟩=some (pp b)) :
    CallsIn FX m' Tryz.prog 39 #[.func (.yield l) #[] #[],.pointer (some ⟨nb,0,none⟩),.pointer (some ⟨pb,0,none⟩)] W (ItO (J n) Jp):=by
  have hro:FX.round=none:=rfl
  have hdp:FX.depth=none:=rfl
  obtain ⟨W1,hW1⟩ : ∃ W1,W.alloc (.cells #[.func (.yield l) #[] #[]] 89)=W1:=⟨_,rfl⟩
  have e1:W1.heap[W.heap.size]?=some (.cells #[.func (.yield l) #[] #[]] 89 (0,0)):=by rw [← hW1];exact heap_new _ _ rfl
  have z1:W1.heap.size=W.heap.size+1:=by rw [← hW1];simp
  have B1:Below W.heap.size W W1:=by rw [← hW1];exact (Below.refl _ _).alloc (Nat.le_refl _) _
  obtain ⟨W2,hW2⟩ : ∃ W2,W1.alloc (.cells #[.int .i64 0] 3)=W2:=⟨_,rfl⟩
  have e2:W2.heap[W1.heap.size]?=some (.cells #[.int .i64 0] 3 (0,0)):=by rw [← hW2];exact heap_new _ _ rfl
  have B2:Below W1.heap.size W1 W2:=by rw [← hW2];exact (Below.refl _ _).alloc (Nat.le_refl _) _
  obtain ⟨W3,hW3⟩ : ∃ W3,W2.setCell ⟨W1.heap.size,0,none⟩ (.int .i64 n)=W3:=⟨_,rfl⟩
  have hk3:∀ j,j≠W1.heap.size→W3.heap[j]?=W2.heap[j]?:=fun j hj=>by rw [← hW3];exact Below.heap_setCell _ _ _ j hj
  have e3:W3.heap[W1.heap.size]?=some (.cells #[.int .i64 n] 3 (0,0)):=by rw [← hW3];exact heap_setCell_same _ _ 0 _ e2
  have z3:W3.heap.size=W2.heap.size:=by rw [← hW3];simp
  have z2:W2.heap.size=W1.heap.size+1:=by rw [← hW2];simp
  have lp:pb<W.heap.size:=World.block_lt_of_cell? W ⟨pb,0,none⟩ cp
  have hb3:∀ j,j<W1.heap.size→W3.heap[j]?=W1.heap[j]?:=fun j hj=>(hk3 j (by omega)).trans (B2.block j hj)
  have K3:Kp (fun j=>D≤j) W W3:=⟨by rw [← hW3,sc_os];exact B2.os.trans B1.os,by rw [← hW3,sc_tape];exact B2.tape.trans B1.tape,by rw [← hW3,sc_output];exact B2.output.trans B1.output,by omega,fun j hj _=>(hb3 j (by omega)).trans (B1.block j hj)⟩
  have E3:=hide (show W3.heap[D]?=some (.cells #[.func (.yield l) #[] #[]] 89 (0,0)) from by rw [← hD];exact (hb3 _ (by omega)).trans e1)
  have E4:=hide (show W3.heap[D+1]?=some (.cells #[.int .i64 n] 3 (0,0)) from by rw [← hD,← z1];exact e3)
  have J3:=hide (C.st 0 W W3 h0 K3)
  have P3:=hide ((hp.upto (Nat.le_of_eq hD)).keep (K3.mono fun j hj=>.inr hj))
  have ZD:=hide (show W1.heap.size=D+1 by omega)
  have ZE:=hide hD
  have CC:=hide C
  have x1:W1.cell? ⟨nb,0,none⟩=some (.int .i64 n):=(B1.cell (p:=⟨nb,0,none⟩) (World.block_lt_of_cell? W _ cn)).trans cn
  have y0:W2.cell? ⟨W1.heap.size,0,none⟩=some (.int .i64 0):=cell_of e2 rfl
  have y1:W2.frozen? ⟨W1.heap.size,0,none⟩=false:=by simp [World.frozen?,e2]
  have y2:W1.heap.size<W2.heap.size:=lt_of_block e2
  have p3:W3.cell? ⟨pb,0,none⟩=some (pp b):=(World.cell?_of_block (a:=⟨pb,0,none⟩) ((hb3 pb (by omega)).trans (B1.block pb lp))).trans cp
  clear e1 z1 B1 e2 B2 hk3 e3 z3 z2 lp hb3 K3 hD cn cp h0 C hp
  refine callsIn_of_wp_marks Tryz.func39 rfl (FX_fn (by decide)) ?_ hro
  simp only [Tryz.ntmps39,List.size_toArray,List.length_cons,List.length_nil,Nat.reduceAdd,Nat.reduceSub,Array.replicate_succ,Array.replicate_zero,List.push_toArray,List.append_toArray,List.nil_append,List.cons_append]
  gi_wp2
  rw [ZE.out,ZD.out]
  clear hW1 hW2 hW3 x1 y0 y1 y2 p3
  refine wpIn_loop (DnI X E b D l n nb pb s J) (DnM D) ⟨0,b,[],undef,undef,undef,undef,undef,undef,undef,undef,undef,undef,undef,⟨Nat.zero_le _,by rw [Nat.sub_zero,List.take_length];exact P3.out,J3.out,E3.out,E4.out,List.nodup_nil,by simp⟩,rfl⟩ ?_
  rintro a w ⟨k,b1,ds,u10,u11,u12,u13,u14,u15,u16,u17,u18,u19,u20,S,rfl⟩
  have HS:=hide S
  have ci:w.cell? ⟨D+1,0,none⟩=some (.int .i64 ((n - k:Nat):Int)):=cell_of S.ci rfl
  have hkn:=S.kn
  clear S J3 E3 E4
  by_cases hlt:k<n
  · have d1:decide ((0:Int)<((n - k:Nat):Int))=true:=by simp;omega
    have d2:decide (0<n - k)=true:=by simp;omega
    have hsl:(s.take (s.length - k)).length=s.length - k:=by rw [List.length_take];omega
    obtain ⟨b0,s0,ks,ka,kc,es,hb1,hk0,hkc,IK,P0⟩:=HS.out.pile.top (by have:=CC.out.len;omega)
    have x0:w.cell? ⟨b1,0,none⟩=some (.slice ka ks.length kc):=cell_of hb1 rfl
    have HIK:=hide IK
    have HP0:=hide P0
    have HES:=hide es
    have HB1:=hide hb1
    have HSL:=hide hsl
    have HK0:=hide hk0
    have HLT:=hide hlt
    have CB:=hide (backward_in (w:=w) (F:=FX) (m:=m' - 1) (FX_fn (by decide)) hro ka ks.length kc)
    clear IK P0 es hb1 hsl hk0 hkc hlt hkn
    gi_wp2_with fail
    refine ⟨FX_fn (by decide),CallsIn.mono CB.out ?_⟩
    rintro e w1 ⟨rfl,hw1⟩
    have Z1:=hide (show w1.heap.size=w.heap.size+1 by rw [hw1];simp)
    have B1:=hide (show Below w.heap.size w w1 from by rw [hw1];exact (Below.refl _ _).alloc (Nat.le_refl _) _)
    have EC:=hide (show w1.heap[w.heap.size]?=some (.cells #[.slice ka ks.length kc] 37 (0,0)) from by rw [hw1];exact heap_new _ _ rfl)
    clear hw1 CB x0 ci d1 d2
    gi_wp2_with fail
    refine range_of hro (by intro h;cases h) (gf:=53) (lb:=#[.pointer (some ⟨w.heap.size,0,none⟩)]) rfl (FX_fn (by decide)) (enters_of Tryz.func53 (by kernel_rfl) rfl) ?_
    intro fn hfn
    obtain ⟨gf,hgf⟩:=FX_ex hfn
    generalize hrec:recL fn _ _ _ _ w1.heap.size=rec
    dsimp only
    have hDw:D+1<w.heap.size:=lt_of_block HS.out.ci
    have hmd:∀ d∈ds,D+2≤d∧d<w.heap.size:=fun d hd=>⟨(HS.out.ma d hd).1,lt_of_block (HS.out.ma d hd).2⟩
    have z1:=Z1.out
    obtain ⟨W2,hW2⟩ : ∃ W2,(w1.alloc (.deferred (some []))).alloc (.loop (rec .ready none))=W2:=⟨_,rfl⟩
    rw [hW2]
    have zW:W2.heap.size=w1.heap.size+2:=by rw [← hW2];simp
    have eL:W2.heap[w1.heap.size+1]?=some (.loop (rec .ready none)):=by rw [← hW2];exact heap_new _ _ (by simp)
    have eD:W2.heap[w1.heap.size]?=some (.deferred (some [])):=by rw [← hW2,Below.heap_alloc _ _ _ (by simp)];exact heap_new _ _ rfl
    have bW:Below w1.heap.size w1 W2:=by rw [← hW2];exact ((Below.refl _ _).alloc (Nat.le_refl _) _).alloc (by simp) _
    have bw2:Below w.heap.size w W2:=B1.out.trans (bW.mono (by omega))
    clear hW2
    obtain ⟨Y,hY⟩ : ∃ Y:Nat→Prop,Y=fun j=>X j∨D≤j:=⟨_,rfl⟩
    rw [← hY] at HIK HP0
    have hnb:¬ Y b1:=by rw [hY];exact HS.out.pile.notin
    have kY:∀ {A B:World},Kp (fun j=>D≤j) A B→Kp Y A B:=fun h=>h.mono fun j hj=>by rw [hY];exact .inr hj
    have kX:∀ {A B:World},Kp X A B→Kp Y A B:=fun h=>h.mono fun j hj=>by rw [hY];exact .inl hj
    have kXD:∀ {A B:World},Kp X A B→Kp (fun j=>j<D) A B:=fun h=>h.mono fun j hj=>CC.out.hX j hj
    have kput:∀ (A:World) (o:Obj),Kp (fun j=>D≤j) A (A.putObj (w1.heap.size+1) o):=fun A o=>((But.put A _ o).mono fun j hj=>by subst hj;show D≤_;omega).kp
    have kset:∀ (A:World) (u:Value),Kp (fun j=>D≤j) A (A.setCell ⟨D+1,0,none⟩ u):=fun A u=>⟨rfl,rfl,rfl,by simp,fun q _ hq=>Below.heap_setCell _ _ _ q (fun e=>hq (by have h:q=D+1:=e;show D≤q;omega))⟩
    have hlk:ks.length≤4000000000000:=by
     have:=congrArg List.length HES.out
     rw [HSL.out,List.length_append] at this
     have:=CC.out.most
     omega
    have S0:Dn2 D l n k ds w.heap.size w1.heap.size (.slice ka ks.length kc) 0 W2:=⟨(bw2.block D (by omega)).trans HS.out.bx,by rw [bw2.block (D+1) hDw,HS.out.ci,Nat.add_zero,show ((n - k:Nat):Int)=(n:Int) - (k:Nat) by have:=HLT.out;omega],(bW.block _ (by omega)).trans EC.out,eD,fun d hd=>(bw2.block d (hmd d hd).2).trans (HS.out.ma d hd).2⟩
    have hput:∀ {j:Nat} {A:World} (o:Obj),Dn2 D l n k ds w.heap.size w1.heap.size (.slice ka ks.length kc) j A→Dn2 D l n k ds w.heap.size w1.heap.size (.slice ka ks.length kc) j (A.putObj (w1.heap.size+1) o):=fun o S=>S.put o (by omega) (by omega) (by omega) (by omega) (fun hm=>by have:=(hmd _ hm).2;omega)
    refine CallsIn.mono (back1_in (F:=FX) (FX_fn (by decide)) hro hdp (l:=w1.heap.size+1) (c:=w.heap.size) (a:=ka) (cap:=kc) (ks:=ks)
      (J:=fun j W=>J (k+j) W∧k+j≤n∧Dn2 D l n k ds w.heap.size w1.heap.size (.slice ka ks.length kc) j W∧W.heap[w1.heap.size+1]?=some (.loop (rec .ready none))∧Kp Y w W)
      (Jx:=fun W=>J n W∧(∃ j,Dn2 D l n k ds w.heap.size w1.heap.size (.slice ka ks.length kc) j W)∧W.heap[w1.heap.size+1]?=some (.loop (rec .done (some .ret))))
      (Jp:=fun ch W=>Jp ch W∧∃ j,Dn2 D l n k ds w.heap.size w1.heap.size (.slice ka ks.length kc) j W)
      hlk ?hR ?hYi W2 ⟨CC.out.st k w W2 HS.out.j (Kp.of_below bw2),by have:=HLT.out;omega,S0,eL,Kp.of_below bw2⟩) ?fin
    case hR =>
     rintro j W ⟨_,_,S,_,hK⟩
     refine ⟨cell_of S.c0 rfl,fun t x hx=>?_⟩
     obtain ⟨ao,cap,hv,_,_,hel⟩:=HIK.out.keep hK
     cases hv
     obtain ⟨g,o,e1,_,_,e4⟩:=hel t x hx
     exact ⟨g,o,e1,e4⟩
    case hYi =>
     rintro j W ⟨hJ,hkj,S,hl,hK⟩ hj x hx
     have hxs:=idx_take HES.out hj hx (by have:=CC.out.len;have:=HLT.out;omega)
     have hl':=hl
     rw [← hrec] at hl'
     refine yield_of (a₁:=⟨#[.func (.yield l) #[] #[],.pointer (some ⟨nb,0,none⟩),.pointer (some ⟨pb,0,none⟩),.pointer (some ⟨D,0,none⟩),.pointer (some ⟨D+1,0,none⟩),pp b1,undef,.int .i64 x,.int .i64 (n:Int),pp b,.int .i64 ((n - k:Nat):Int),.bool true,u12,u13,u14,u15,pp b1,.pointer (some ⟨b1,0,none⟩),.pointer (some ⟨b1,0,none⟩),.slice ka ks.length kc,.func (.func 53) #[] #[.pointer (some ⟨w.heap.size,0,none⟩)],.int .i64 ((ks.length - 1 - j:Nat):Int),.int .i64 x,undef,undef,undef,undef,undef,undef,undef,undef,undef,undef,undef],[]⟩) hfn hgf hl' rfl ?assign ?body
     case assign =>
      intro K hK
      gi_wp2
      exact hK
     case body =>
      rw [hrec]
      have hlt2:w1.heap.size+1<W.heap.size:=lt_of_block hl
      have SB:=hput (.loop (rec .busy none)) S
      have JB:=CC.out.st _ _ _ hJ (kput W (.loop (rec .busy none)))
      have KB:=hK.trans (kY (kput W (.loop (rec .busy none))))
      have LB:(W.putObj (w1.heap.size+1) (.loop (rec .busy none))).heap[w1.heap.size+1]?=some (.loop (rec .busy none)):=World.putObj_heap_same hlt2
      generalize W.putObj (w1.heap.size+1) (.loop (rec .busy none))=WB at *
      obtain ⟨W3,hW3⟩ : ∃ W3,WB.setCell ⟨D+1,0,none⟩ (.int .i64 ((n:Int) - (k+(j+1):Nat)))=W3:=⟨_,rfl⟩
      have S3:Dn2 D l n k ds w.heap.size w1.heap.size (.slice ka ks.length kc) (j+1) W3:=by rw [← hW3];exact SB.set (fun d hd=>(hmd d hd).1) (by omega) (by omega)
      have J3':=CC.out.st _ _ W3 JB (by rw [← hW3];exact kset _ _)
      have K3' : Kp Y w W3:=by rw [← hW3];exact KB.trans (kY (kset _ _))
      have L3:W3.heap[w1.heap.size+1]?=some (.loop (rec .busy none)):=by rw [← hW3,Below.heap_setCell _ _ _ _ (by show w1.heap.size+1≠D+1;omega)];exact LB
      have i0:WB.cell? ⟨D+1,0,none⟩=some (.int .i64 ((n:Int) - (k+j:Nat))):=cell_of SB.ci rfl
      have i1:WB.frozen? ⟨D+1,0,none⟩=false:=by simp [World.frozen?,SB.ci]
      have i2:D+1<WB.heap.size:=lt_of_block SB.ci
      have i3:W3.cell? ⟨D+1,0,none⟩=some (.int .i64 ((n:Int) - (k+(j+1):Nat))):=cell_of S3.ci rfl
      have i4:W3.cell? ⟨D,0,none⟩=some (.func (.yield l) #[] #[]):=cell_of S3.bx rfl
      have HS3:=hide S3
      have HJ3:=hide J3'
      have HK3:=hide K3'
      have HL3:=hide L3
      have HXS:=hide hxs
      have nb1:(n:Int)≤4000000000000:=by have:=CC.out.len;have:=CC.out.most;omega
      have kb1:(k+j:Nat)≤n:=hkj
      obtain ⟨iv,hiv⟩ : ∃ iv:Int,(n:Int) - (k+(j+1):Nat)=iv:=⟨_,rfl⟩
      have hi:(n:Int) - (k+j:Nat)=iv+1:=by omega
      have hi2:iv+1 - 1=iv:=by omega
      have hb1:iv+1≤4000000000000:=by omega
      have hb2 : -1≤iv:=by omega
      rw [hiv] at hW3 i3
      rw [hi] at i0
      have HIV:=hide hiv
      clear S3 J3' K3' L3 hxs SB JB KB LB hi hiv
      by_cases hkn2:k+j<n
      · have hge:0≤iv:=by have:=HIV.out;omega
        have dlt:decide (iv<0)=false:=by simpa using hge
        obtain ⟨fn',tm',as',bo',hy,hRd⟩:=CC.out.yi (k+j) W3 HJ3.out hkn2 x HXS.out
        rw [show ((n - 1 - (k+j):Nat):Int)=iv by have:=HIV.out;omega] at hy
        have HRD:=hide hRd
        have HKN:=hide hkn2
        clear hRd hkn2 kb1 z1 zW hDw hlt2
        gi_wp2
        refine RoundIn.mono (show RoundIn (FX.inRound (w1.heap.size+1)) _ _ _ _ _ _ _ _ _ from HRD.out) ?_
        rintro e W4 (⟨rfl,hJ4,hK4⟩ | ⟨ch,rfl,hJp4,hK4⟩)
        · have HJ4:=hide hJ4
          have HK4:=hide hK4
          clear hJ4 hK4
          gi_wp2
          have z1:=Z1.out
          have hDw:D+1<w.heap.size:=lt_of_block HS.out.ci
          have L4:W4.heap[w1.heap.size+1]?=some (.loop (rec .busy none)):=(HK4.out.block _ (lt_of_block HL3.out) (fun h=>by have:=CC.out.hX _ h;omega)).trans HL3.out
          have S4:=HS3.out.keep (fun d hd=>(hmd d hd).1) (by omega) (by omega) (kXD HK4.out)
          exact ⟨L4,.inl ⟨rfl,CC.out.st _ _ _ HJ4.out (kput _ _),HKN.out,hput _ S4,World.putObj_heap_same (lt_of_block L4),(HK3.out.trans (kX HK4.out)).trans (kY (kput _ _))⟩⟩
        · have hDw:D+1<w.heap.size:=lt_of_block HS.out.ci
          have z1:=Z1.out
          exact ⟨rfl,.inr (.inr ⟨ch,rfl,hJp4,j+1,HS3.out.keep (fun d hd=>(hmd d hd).1) (by omega) (by omega) (kXD hK4)⟩)⟩
      · have hge:iv<0:=by have:=HIV.out;omega
        have dlt:decide (iv<0)=true:=by simpa using hge
        obtain rfl:k+j=n:=by omega
        clear kb1 z1 zW hDw hlt2 hkn2
        gi_wp2
        refine ⟨fun _ h=>(by cases h),?_⟩
        gi_wp2
        have z1:=Z1.out
        have hDw:D+1<w.heap.size:=lt_of_block HS.out.ci
        exact ⟨HL3.out,.inr (.inl ⟨rfl,CC.out.st _ _ _ HJ3.out (kput _ _),⟨j+1,hput _ HS3.out⟩,World.putObj_heap_same (lt_of_block HL3.out)⟩)⟩
    case fin =>
     rintro e W' (⟨v,rfl,(⟨hJ,hkj,S,hl,hK⟩ | ⟨hJ,⟨j,S⟩,hl⟩)⟩ | ⟨ch,rfl,hJ,j,S⟩)
     · refine .inl ⟨v,rfl,hl,?_⟩
       have KE:=hide (hK.trans (kY (kput W' (.loop (rec .exhausted none)))))
       have SE:=hide (hput (.loop (rec .exhausted none)) S)
       have JE:=hide (CC.out.st _ _ _ hJ (kput W' (.loop (rec .exhausted none))))
       have HKJ:=hide hkj
       clear S hl hK hJ hkj zW eL eD bW bw2 S0 hlk
       generalize W'.putObj (w1.heap.size+1) (.loop (rec .exhausted none))=W9 at *
       have q1:W9.cell? ⟨b1,1,none⟩=some (pp b0):=cell_of ((KE.out.block b1 (lt_of_block HB1.out) hnb).trans HB1.out) rfl
       clear z1 hDw
       gi_wp2
       have z1:=Z1.out
       have hDw:D+1<w.heap.size:=lt_of_block HS.out.ci
       refine ⟨⟨k+ks.length,b0,w1.heap.size :: ds,_,_,_,_,_,_,_,_,_,_,_,⟨HKJ.out,?_,JE.out,SE.out.bx,?_,?_,?_⟩,rfl⟩,?_⟩
       · rw [take_rest HES.out (by have:=CC.out.len;have:=HLT.out;omega),← hY]
         exact HP0.out.keep KE.out
       · rw [SE.out.ci]
         congr 5
         have:=HKJ.out
         omega
       · rw [List.nodup_cons]
         exact ⟨fun hm=>by have:=(hmd _ hm).2;omega,HS.out.nd⟩
       · intro d hd
         rw [List.mem_cons] at hd
         rcases hd with rfl | hd
         · exact ⟨by omega,SE.out.d2⟩
         · exact ⟨(hmd d hd).1,SE.out.ma d hd⟩
       · have h1:W9.cell? ⟨D+1,0,none⟩=some (.int .i64 ((n:Int) - (k+ks.length:Nat))):=cell_of SE.out.ci rfl
         have h2:w.cell? ⟨D+1,0,none⟩=some (.int .i64 ((n - k:Nat):Int)):=cell_of HS.out.ci rfl
         unfold DnM
         rw [h1,h2]
         simp only [intOf]
         have:=HK0.out
         have:=HLT.out
         omega
     · refine .inr (.inl ⟨v,rfl,hl,?_⟩)
       have SE:=hide (hput (.loop (rec .exhausted (some .ret))) S)
       have JE:=hide (CC.out.st _ _ _ hJ (kput W' (.loop (rec .exhausted (some .ret)))))
       generalize W'.putObj (w1.heap.size+1) (.loop (rec .exhausted (some .ret)))=W9 at *
       have hnd:(w1.heap.size :: ds).Nodup:=by
        rw [List.nodup_cons]
        exact ⟨fun hm=>by have:=(hmd _ hm).2;omega,HS.out.nd⟩
       have HLV:=hide (show ∀ tm,LeavesInM FX m' Tryz.prog Tryz.f39 tm (ItO (J n) Jp) (marks (w1.heap.size :: ds)) .returning W9 from fun tm=>leave_marks (by simp) (w1.heap.size :: ds) W9 hnd (fun d hd=>by
        rw [List.mem_cons] at hd
        rcases hd with rfl | hd
        · exact SE.out.d2
        · exact SE.out.ma d hd) fun w' hb=>⟨_,results_none rfl _ _ _,Or.inl ⟨_,rfl,CC.out.st _ _ _ JE.out (hb.mono fun q hq=>by
          rw [List.mem_cons] at hq
          show D≤q
          rcases hq with rfl | hq
          · omega
          · have:=(hmd q hq).1;omega).kp⟩⟩)
       clear z1 zW eL eD bW bw2 S0 hlk hl S hJ hDw
       gi_wp2
       exact HLV.out _
     · refine .inr (.inr ⟨ch,rfl,?_⟩)
       have hnd:(w1.heap.size :: ds).Nodup:=by
        rw [List.nodup_cons]
        exact ⟨fun hm=>by have:=(hmd _ hm).2;omega,HS.out.nd⟩
       exact leave_marks (by simp) (w1.heap.size :: ds) W' hnd (fun d hd=>by
        rw [List.mem_cons] at hd
        rcases hd with rfl | hd
        · exact S.d2
        · exact S.ma d hd) fun w' hb=>Or.inr ⟨ch,rfl,CC.out.stp _ _ _ hJ (hb.mono fun q hq=>by
          rw [List.mem_cons] at hq
          show D≤q
          rcases hq with rfl | hq
          · omega
          · have:=(hmd q hq).1;omega).kp⟩
  · obtain rfl:k=n:=by omega
    rw [Nat.sub_self] at ci
    clear hlt hkn
    gi_wp2
    exact leave_marks (by simp) ds w HS.out.nd (fun d hd=>(HS.out.ma d hd).2) fun w' hb=>⟨_,results_none rfl _ _ _,Or.inl ⟨_,rfl,CC.out.st _ _ _ HS.out.j (hb.mono fun j hj=>by have:=(HS.out.ma j hj).1;show D≤j;omega).kp⟩⟩
end
end Go.Proofs.YtkdojpnihinpbaaGreatDoor
