/- follow: the way through a function. -/
import Derived.Test.YtkdojpnihinpbaaGreatDoorVfXbJo
import Derived.Test.YtkdojpnihinpbaaGreatDoorVfTkJo
namespace Go.Proofs.YtkdojpnihinpbaaGreatDoor
open Go.RowKit
theorem info_pp:(Tryz.prog.info? 43).map (fun i=>(i.zero,i.size,i.bytes))=some (some (.pointer none),1,8):=by kernel_rfl
theorem made_pp (n:Nat):madeCells #[Value.pointer none] n=(List.replicate n (Value.pointer none)).toArray:=by
 apply Array.ext
 · simp [madeCells]
 · intro i h1 h2
   simp [madeCells,Nat.mod_one]
theorem run_piles (w:World) (n:Nat) (hn:n≤65536):(Instr.makeSlice 41 (.int .i64 n) (.int .i64 n)).run Tryz.prog w=.ok (.slice (some ⟨w.heap.size,0,none⟩) n n) (w.alloc (.cells (List.replicate n (Value.pointer none)).toArray 43)):=by
 obtain ⟨i0,hi,hz0,hz1,hz2⟩:=info_parts info_pp
 have hmk:=run_make (P:=Tryz.prog) w 41 43 i0 (.pointer none) Tryz.underlying41 hi hz0 .i64 .i64 n n (by omega) (Int.le_refl _) (by rw [hz2];omega) (by omega)
 rw [hz1] at hmk
 simp only [Int.toNat_natCast,Nat.mul_one] at hmk
 rw [show (Value.pointer none).cells=#[Value.pointer none] from rfl,made_pp] at hmk
 exact hmk
def fl00 (n:Nat):Fl:=⟨List.replicate n none,List.replicate n false,0⟩
theorem fl00_come {n:Nat} (hn:0<n):comeP (fl00 n) 0 []=.ok (fl0 n):=by
 unfold comeP fl00 fl0
 dsimp only
 rw [List.getElem?_replicate,if_pos hn]
 rfl
section
variable {B:Nat} {w w' : World} {p:Pg} {f:Fd} {fi:Int}
theorem flm_new {E ahb wtb:Nat} {V:Fv} (hB:B≤w.heap.size) (hT:Tb w) (hb0:0<B) (hnc:f.co.length≤65536) {W:World} (hb:Below w.heap.size w W) (pg:PgAt B w V.v1 V.v2 V.v3 V.v4 p) (lo:SlAt 1 IntP B w V.u1 f.lo) (re:SlAt 1 IntP B w V.u2 f.re) (ar:SlAt 1 IntP B w V.u3 f.ar) (co:SlAt 3 InsP B w V.u4 f.co)
    (va:V.ah=.slice (some ⟨ahb,0,none⟩) f.co.length f.co.length) (vw:V.wt=qv wtb f.co.length) (h1:w.heap.size≤ahb) (h2:w.heap.size≤wtb) (h3:ahb≠wtb) (ha:W.heap[ahb]?=some (.cells (List.replicate f.co.length (Value.pointer none)).toArray 43 (0,0))) (hw:QuAt W wtb f.co.length (List.replicate f.co.length false)) :
    FlM B E W.heap.size ahb wtb (W.alloc (flO V fi 0 f.pa 0)) p f V fi 0 (fl00 f.co.length):=by
  have hb2:Below W.heap.size W (W.alloc (flO V fi 0 f.pa 0)):=(Below.refl _ _).alloc (Nat.le_refl _) _
  have hbb:=bel_tr hb hb2
  have hk:∀ j,j<B→(W.alloc (flO V fi 0 f.pa 0)).heap[j]?=w.heap[j]?:=fun j hj=>hbb.block j (Nat.lt_of_lt_of_le hj hB)
  have hla:=lt_of_block ha
  obtain ⟨_,ws,_,q3,_⟩:=id hw
  have hlw:=lt_of_block q3
  refine ⟨⟨Nat.le_trans hB hbb.size,heap_new _ _ rfl,pg.keep (Nat.le_refl _) hk,ints_keep (Nat.le_refl _) hk lo,ints_keep (Nat.le_refl _) hk re,ints_keep (Nat.le_refl _) hk ar,ins_keep (Nat.le_refl _) hk co⟩,va,vw,⟨by simp [fl00],List.replicate f.co.length (.pointer none),by simp,(hb2.block _ hla).trans ha,fun x o ho=>?_⟩,hw.keep (hb2.block _ hlw),by omega,by omega,h3,by have:=hb.size;omega,by omega,by omega,hb0,hT.keep (hk 0 hb0),hnc⟩
  unfold fl00 at ho
  dsimp only at ho
  rw [List.getElem?_replicate] at ho
  split at ho
  · rename_i hx
    cases ho
    exact ⟨.pointer none,by rw [List.getElem?_replicate,if_pos hx],rfl⟩
  · cases ho
def FoN (B:Nat) (p:Pg) (f:Fd) (fi:Int) (n:Nat) (w wc:World) (v:Value):Prop:=∃ A ahb wtb V,v=.pointer (some ⟨A,0,none⟩)∧(∀ E,FlM B E A ahb wtb wc p f V fi 0 (fl00 n))∧Below w.heap.size w wc∧∀ j,Xf A ahb wtb j→w.heap.size≤j
def LgO (B E A ahb wtb:Nat) (p:Pg) (f:Fd) (V:Fv) (fi at_:Int) (F:Fl) (w:World) (e:Ending) (W:World):Prop:=Kp (Xf A ahb wtb) w W∧((leastP F.wt=none∧e=.returned (.tuple #[.int .i64 0,.bool false])∧FlM B E A ahb wtb W p f V fi at_ F)∨∃ x:Nat,leastP F.wt=some x∧e=.returned (.tuple #[.int .i64 x,.bool true])∧FlM B E A ahb wtb W p f V fi at_ { F with wt:=F.wt.set x false })
theorem least_go {E A ahb wtb:Nat} {V:Fv} {at_:Int} {F:Fl} (M:FlM B E A ahb wtb w p f V fi at_ F):Calls Tryz.prog 51 #[qv wtb f.co.length] w (LgO B E A ahb wtb p f V fi at_ F w):=by
 refine (least_any M.qu M.nc M.tb (by have:=M.b0;have:=M.bw;omega)).mono ?_
 rintro e W h
 unfold LsO at h
 cases hl:leastP F.wt with
 | none =>
  rw [hl] at h
  obtain ⟨rfl,rfl⟩:=h
  exact ⟨Kp.refl _ _,.inl ⟨hl,rfl,M⟩⟩
 | some x =>
  rw [hl] at h
  obtain ⟨rfl,hq,hk⟩:=h
  have hbk:∀ j,j<w.heap.size→j≠wtb→W.heap[j]?=w.heap[j]?:=fun j hj hn=>hk.block j hj hn
  have hlA:=(M.lt (.inl rfl)).2
  have hlh:=(M.lt (.inr (.inl rfl))).2
  have hb:∀ j,j<B→W.heap[j]?=w.heap[j]?:=fun j hj=>hbk j (Nat.lt_of_lt_of_le hj M.fl.hB) (by have:=M.bw;omega)
  have hK:Kp (Xf A ahb wtb) w W:=hk.mono fun j hj=>.inr (.inr hj)
  refine ⟨hK,.inr ⟨x,hl,rfl,⟨M.fl.keep hb (hbk A hlA M.d2) hk.size,M.va,M.vw,M.ah.keep hK (hbk ahb hlh M.d3),hq,M.d1,M.d2,M.d3,M.bA,M.bh,M.bw,M.b0,M.tb.keep (hb 0 M.b0),M.nc⟩⟩⟩
theorem FlM.stand {E A ahb wtb:Nat} {V:Fv} {at_ y:Int} {F:Fl} (M:FlM B E A ahb wtb w p f V fi at_ F) {W:World} (hW:w.setCell ⟨A,1,none⟩ (.int .i64 y)=W):FlM B E A ahb wtb W p f V fi y F:=by
 have hk:∀ j,j≠A→W.heap[j]?=w.heap[j]?:=fun j hj=>by rw [← hW];exact Below.heap_setCell _ _ _ j hj
 have hK:Kp (Xf A ahb wtb) w W:=Kp.set (.inl rfl) hW
 have hb:∀ j,j<B→W.heap[j]?=w.heap[j]?:=fun j hj=>hk j (by have:=M.bA;omega)
 refine ⟨⟨Nat.le_trans M.fl.hB hK.size,?_,M.fl.pg.keep (Nat.le_refl _) hb,ints_keep (Nat.le_refl _) hb M.fl.lo,ints_keep (Nat.le_refl _) hb M.fl.re,ints_keep (Nat.le_refl _) hb M.fl.ar,ins_keep (Nat.le_refl _) hb M.fl.co⟩,M.va,M.vw,M.ah.keep hK (hk ahb (Ne.symm M.d1)),M.qu.keep (hk wtb (Ne.symm M.d2)),M.d1,M.d2,M.d3,M.bA,M.bh,M.bw,M.b0,M.tb.keep (hb 0 M.b0),M.nc⟩
 rw [← hW,heap_setCell_same _ _ _ _ M.fl.box]
 rfl
def FoO (B:Nat) (p:Pg) (f:Fd) (fi:Int) (w:World) (e:Ending) (W:World):Prop:=(match followP p f with
  | .ok F=>∃ A ahb wtb E V at_,e=.returned (.pointer (some ⟨A,0,none⟩))∧FlM B E A ahb wtb W p f V fi at_ F
  | .error (x,c)=>e=.panicked (fch fi (x:Int) c))∧Below w.heap.size w W
def FoR (B E A ahb wtb:Nat) (p:Pg) (f:Fd) (V:Fv) (fi:Int) (w:World) (K:Nat) (a7 a8:Value) (wr:World):Prop:=∃ (F:Fl) (k:Nat) (at_:Int),runP p f K F=followP p f∧MM F<K∧k+K=f.co.length+1∧FInv p f k F∧Kp (Xf A ahb wtb) w wr∧((leastP F.wt=none∧a7=.int .i64 0∧a8=.bool false∧FlM B E A ahb wtb wr p f V fi at_ F)∨∃ x:Nat,leastP F.wt=some x∧a7=.int .i64 x∧a8=.bool true∧FlM B E A ahb wtb wr p f V fi at_ { F with wt:=F.wt.set x false })
set_option maxRecDepth 100000 in
set_option maxHeartbeats 4000000 in
theorem follow_any {v1 v2 v3 v4:Value} (P:PgAt B w v1 v2 v3 v4 p) (hB:B≤w.heap.size) (H:Hok p) (hT:Tb w) (hb0:0<B) {m:Nat} (hm:p.fu[m]?=some f):Calls Tryz.prog 33 #[.agg #[v1,v2,v3,v4],.int .i64 m] w (FoO B p f m w):=by
 have hf:=H.fu f (List.mem_of_getElem? hm)
 have hmn:m<4096:=Nat.lt_of_lt_of_le (get_lt hm) H.nf
 obtain ⟨g,o,c,n,u1,u2,u3,u4,hv,hn,hlt,hg,⟨y0,y1,y2,y3,y4⟩,r1,r2,r3,r4⟩:=fd_at P.fu hm
 obtain ⟨a1,d1,hv1⟩:=sl_form P.ty
 obtain ⟨a3,d3,hv3⟩:=sl_form P.ta
 obtain ⟨a4,d4,hv4⟩:=sl_form P.st
 subst hv hv1 hv3 hv4
 obtain ⟨x1,z1,rfl⟩:=sl_form r1
 obtain ⟨x2,z2,rfl⟩:=sl_form r2
 obtain ⟨x3,z3,rfl⟩:=sl_form r3
 obtain ⟨x4,z4,rfl⟩:=sl_form r4
 obtain ⟨W2,hW2⟩ : ∃ W2,(w.alloc (.cells #[.slice a1 p.ty.length d1,.slice (some ⟨g,o,none⟩) n c,.slice a3 p.ta.length d3,.slice a4 p.st.length d4] 27)).alloc (.cells #[.int .i64 f.pa,.slice x1 f.lo.length z1,.slice x2 f.re.length z2,.slice x3 f.ar.length z3,.slice x4 f.co.length z4] 40)=W2:=⟨_,rfl⟩
 have b2:Below w.heap.size w W2:=by rw [← hW2];exact ((Below.refl _ _).alloc (Nat.le_refl _) _).alloc (by simp) _
 have e1:W2.heap[w.heap.size]?=some (.cells #[.slice a1 p.ty.length d1,.slice (some ⟨g,o,none⟩) n c,.slice a3 p.ta.length d3,.slice a4 p.st.length d4] 27 (0,0)):=by rw [← hW2,Below.heap_alloc _ _ _ (by simp)];exact heap_new _ _ rfl
 have e2:W2.heap[w.heap.size+1]?=some (.cells #[.int .i64 f.pa,.slice x1 f.lo.length z1,.slice x2 f.re.length z2,.slice x3 f.ar.length z3,.slice x4 f.co.length z4] 40 (0,0)):=by rw [← hW2];exact heap_new _ _ (by simp)
 have z2s:W2.heap.size=w.heap.size+2:=by rw [← hW2];simp
 have l1:g<w.heap.size:=Nat.lt_of_lt_of_le hg hB
 have q1:decide (m<n)=true:=by simpa using hlt
 have HST:=hide (show ∀ W:World,Below W2.heap.size W2 W→W.cell? ⟨w.heap.size,0,none⟩=some (.slice a1 p.ty.length d1)∧W.cell? ⟨w.heap.size,1,none⟩=some (.slice (some ⟨g,o,none⟩) n c)∧W.cell? ⟨w.heap.size,2,none⟩=some (.slice a3 p.ta.length d3)∧W.cell? ⟨w.heap.size,3,none⟩=some (.slice a4 p.st.length d4)∧W.cell? ⟨w.heap.size+1,0,none⟩=some (.int .i64 f.pa)∧W.cell? ⟨w.heap.size+1,1,none⟩=some (.slice x1 f.lo.length z1)∧W.cell? ⟨w.heap.size+1,2,none⟩=some (.slice x2 f.re.length z2)∧W.cell? ⟨w.heap.size+1,3,none⟩=some (.slice x3 f.ar.length z3)∧W.cell? ⟨w.heap.size+1,4,none⟩=some (.slice x4 f.co.length z4) from fun W h=>by
  have h1:=(h.block _ (lt_of_block e1)).trans e1
  have h2:=(h.block _ (lt_of_block e2)).trans e2
  exact ⟨cell_of h1 rfl,cell_of h1 rfl,cell_of h1 rfl,cell_of h1 rfl,cell_of h2 rfl,cell_of h2 rfl,cell_of h2 rfl,cell_of h2 rfl,cell_of h2 rfl⟩)
 have HNEW:=hide (show ∀ (W:World) (E ahb wtb:Nat),Below W2.heap.size W2 W→W2.heap.size≤ahb→W2.heap.size≤wtb→ahb≠wtb→W.heap[ahb]?=some (.cells (List.replicate f.co.length (Value.pointer none)).toArray 43 (0,0))→QuAt W wtb f.co.length (List.replicate f.co.length false)→FlM B E W.heap.size ahb wtb (W.alloc (flO ⟨.slice a1 p.ty.length d1,.slice (some ⟨g,o,none⟩) n c,.slice a3 p.ta.length d3,.slice a4 p.st.length d4,.slice x1 f.lo.length z1,.slice x2 f.re.length z2,.slice x3 f.ar.length z3,.slice x4 f.co.length z4,.slice (some ⟨ahb,0,none⟩) f.co.length f.co.length,qv wtb f.co.length⟩ m 0 f.pa 0)) p f ⟨.slice a1 p.ty.length d1,.slice (some ⟨g,o,none⟩) n c,.slice a3 p.ta.length d3,.slice a4 p.st.length d4,.slice x1 f.lo.length z1,.slice x2 f.re.length z2,.slice x3 f.ar.length z3,.slice x4 f.co.length z4,.slice (some ⟨ahb,0,none⟩) f.co.length f.co.length,qv wtb f.co.length⟩ m 0 (fl00 f.co.length) from fun W E ahb wtb hb h1 h2 h3 ha hw=>flm_new hB hT hb0 hf.nc (bel_tr b2 hb) P r1 r2 r3 r4 rfl rfl (by have:=b2.size;omega) (by have:=b2.size;omega) h3 ha hw)
 have HB2:=hide b2
 have HFF:=hide hf
 have HNC:=hide hf.nc
 have HC0:=hide hf.co
 have HZ2:=hide z2s
 have HIN:=hide (show ∀ (W:World) (x:Nat),Below w.heap.size w W→x<f.co.length→∃ i,f.co[x]?=some i∧(-9223372036854775808≤i.a∧i.a≤9223372036854775807)∧∃ gc oc,x4=some ⟨gc,oc,none⟩∧gc<B∧W.cell? ⟨gc,oc+x*3,none⟩=some (.int .i64 i.o)∧W.cell? ⟨gc,oc+x*3+1,none⟩=some (.int .i64 i.a)∧W.cell? ⟨gc,oc+x*3+2,none⟩=some (.int .i64 i.b) from fun W x hW hx=>by
  obtain ⟨ao,cap,hao,_,hel⟩:=r4
  cases hao
  obtain ⟨i,hi⟩ : ∃ i,f.co[x]?=some i:=⟨f.co[x],by simp⟩
  obtain ⟨gc,oc,cs,h1,h2,h3,rfl,_,h4,_⟩:=hel x i hi
  have hk:∀ (r:Nat) (u:Value),[Value.int .i64 i.o,.int .i64 i.a,.int .i64 i.b][r]?=some u→W.cell? ⟨gc,oc+x*3+r,none⟩=some u:=fun r u hu=>(hW.cell (p:=⟨gc,oc+x*3+r,none⟩) (Nat.lt_of_lt_of_le h2 hB)).trans (h3 r u hu)
  exact ⟨i,hi,h4,gc,oc,h1,h2,by have:=hk 0 _ rfl;rwa [Nat.add_zero] at this,hk 1 _ rfl,hk 2 _ rfl⟩)
 have HBB:=hide hB
 clear P hB hT hb0 r1 r2 r3 r4 hn hg b2 e1 e2 hf hm z2s
 obtain ⟨k0,k1,k2,k3,f0,f1,f2,f3,f4⟩:=HST.out W2 (Below.refl _ _)
 have hl0:w.heap.size<W2.heap.size:=by have:=HZ2.out;omega
 have hl1:w.heap.size+1<W2.heap.size:=by have:=HZ2.out;omega
 obtain ⟨cn,hcn⟩ : ∃ cn,f.co.length=cn:=⟨_,rfl⟩
 rw [hcn] at HST HNEW f4 hW2 HNC HC0
 have HCN:=hide hcn
 clear hcn
 generalize p.ty.length=n1 at *
 generalize p.ta.length=n3 at *
 generalize p.st.length=n4 at *
 generalize f.lo.length=m1 at *
 generalize f.re.length=m2 at *
 generalize f.ar.length=m3 at *
 have HW2:=hide hW2
 clear hW2
 go_enter Tryz.func33,Tryz.ntmps33
 go_upto_region 2 with (fail)
 rw [HCN.out,HW2.out]
 go_cut [6] from 14 to 27 (fun v wc=>Hid (FoN B p f m cn W2 wc v))
 case first =>
  refine wp_region_held_drew (S:=(fun W=>Below W2.heap.size W2 W∧W.cell? ⟨w.heap.size,0,none⟩=some (.slice a1 n1 d1)∧W.cell? ⟨w.heap.size,1,none⟩=some (.slice (some ⟨g,o,none⟩) n c)∧W.cell? ⟨w.heap.size,2,none⟩=some (.slice a3 n3 d3)∧W.cell? ⟨w.heap.size,3,none⟩=some (.slice a4 n4 d4)∧W.cell? ⟨w.heap.size+1,0,none⟩=some (.int .i64 f.pa)∧W.cell? ⟨w.heap.size+1,1,none⟩=some (.slice x1 m1 z1)∧W.cell? ⟨w.heap.size+1,2,none⟩=some (.slice x2 m2 z2)∧W.cell? ⟨w.heap.size+1,3,none⟩=some (.slice x3 m3 z3)∧W.cell? ⟨w.heap.size+1,4,none⟩=some (.slice x4 cn z4))) (by kernel_rfl) ⟨below_drew (Below.refl _ _),k0,k1,k2,k3,f0,f1,f2,f3,f4⟩ (fun hHeld1=>?_)
  refine tk 0 ?_;simp only [sp]
  refine tk 1 ?_;simp only [sp]
  refine tk 2 ?_;simp only [sp]
  refine tk 3 ?_;simp only [sp]
  refine tk 4 ?_;simp only [sp]
  refine tk 5 ?_;simp only [sp]
  refine tk 6 ?_;simp only [sp]
  refine tk 8 ?_;simp only [sp]
  refine tk 9 ?_;simp only [sp]
  refine tk 10 ?_;simp only [sp]
  refine wpAnyH_ready (rs:=[7,11]) (by kernel_rfl) (by simp) ?_
  refine AllReadyH.cons (dr rfl) (fun K hK=>?_) (AllReadyH.cons (dr rfl) (fun K hK=>?_) AllReadyH.nil)
  · have hr:=run_piles W2.drew cn HNC.out
    have hbp:Below W2.heap.size W2 (W2.drew.alloc (.cells (List.replicate cn (Value.pointer none)).toArray 43)):=(below_drew (Below.refl _ _)).alloc (Nat.le_refl _) _
    have HPN:=hide (show (W2.drew.alloc (.cells (List.replicate cn (Value.pointer none)).toArray 43)).heap[W2.heap.size]?=some (.cells (List.replicate cn (Value.pointer none)).toArray 43 (0,0)) from heap_new W2.drew _ rfl)
    have hzp:(W2.drew.alloc (.cells (List.replicate cn (Value.pointer none)).toArray 43)).heap.size=W2.heap.size+1:=by simp
    generalize W2.drew.alloc (.cells (List.replicate cn (Value.pointer none)).toArray 43)=W3 at *
    have HBP:=hide hbp
    have HZP:=hide hzp
    clear hbp hzp
    go_simp
    go_wp2_with fail
    refine hK.out _ _ ⟨HBP.out,HST.out W3 HBP.out⟩ (fun hHeld12=>?_)
    clear hK K
    try simp only [sp]
    clear hr
    refine rd 11 (fun K hK=>?_)
    go_simp
    go_at_call 49
    refine (newQueue_any _ cn HNC.out).mono ?_
    rintro e w4 ⟨rfl,hw4⟩
    have HQ4:=hide (show QuAt w4 W3.heap.size cn (List.replicate cn false) from hw4 ▸ qu_new W3 cn)
    have HB4:=hide (show Below W3.heap.size W3 w4 from hw4 ▸ (Below.refl _ _).alloc (Nat.le_refl _) _)
    clear hw4
    go_wp2_with fail
    refine hK.out _ _ ⟨bel_tr HBP.out HB4.out,HST.out w4 (bel_tr HBP.out HB4.out)⟩ (fun hHeld13=>?_)
    clear hK K
    try simp only [sp]
    refine tk 12 ?_;simp only [sp]
    refine rd 13 (fun K hK=>?_)
    go_simp
    go_wp2_with fail
    refine hK.out _ _ ⟨(bel_tr HBP.out HB4.out).alloc (bel_tr HBP.out HB4.out).size _,HST.out _ ((bel_tr HBP.out HB4.out).alloc (bel_tr HBP.out HB4.out).size _)⟩ (fun hHeld15=>?_)
    clear hK K
    try simp only [sp]
    refine tk 14 ?_;simp only [sp]
    refine wpAnyH_done (by kernel_rfl) ?_ _
    go_wp2
    go_meet
    have hz:=HB4.out.size
    have hz2:=HZP.out
    have hz3:=HBP.out.size
    exact hide ⟨_,W2.heap.size,W3.heap.size,_,rfl,fun E=>HNEW.out w4 E W2.heap.size W3.heap.size (bel_tr HBP.out HB4.out) (Nat.le_refl _) (by omega) (by omega) ((HB4.out.block _ (by omega)).trans HPN.out) HQ4.out,(bel_tr HBP.out HB4.out).alloc (bel_tr HBP.out HB4.out).size _,fun j hj=>by
     rcases hj with rfl | rfl | rfl <;> omega⟩
  · go_simp
    go_at_call 49
    refine (newQueue_any _ cn HNC.out).mono ?_
    rintro e w3 ⟨rfl,hw3⟩
    have HQ3:=hide (show QuAt w3 W2.heap.size cn (List.replicate cn false) from hw3 ▸ qu_new W2.drew cn)
    have HB3:=hide (show Below W2.heap.size W2 w3 from hw3 ▸ (below_drew (Below.refl _ _)).alloc (Nat.le_refl _) _)
    have HZ3:=hide (show w3.heap.size=W2.heap.size+1 from by rw [hw3];simp)
    clear hw3
    go_wp2_with fail
    refine hK.out _ _ ⟨HB3.out,HST.out w3 HB3.out⟩ (fun hHeld17=>?_)
    clear hK K
    try simp only [sp]
    have hr:=run_piles w3 cn HNC.out
    have hbp:Below w3.heap.size w3 (w3.alloc (.cells (List.replicate cn (Value.pointer none)).toArray 43)):=(Below.refl _ _).alloc (Nat.le_refl _) _
    have HPN:=hide (show (w3.alloc (.cells (List.replicate cn (Value.pointer none)).toArray 43)).heap[w3.heap.size]?=some (.cells (List.replicate cn (Value.pointer none)).toArray 43 (0,0)) from heap_new w3 _ rfl)
    generalize w3.alloc (.cells (List.replicate cn (Value.pointer none)).toArray 43)=W4 at *
    have HBP:=hide hbp
    clear hbp
    refine rd 7 (fun K hK=>?_)
    go_simp
    go_wp2_with fail
    refine hK.out _ _ ⟨bel_tr HB3.out HBP.out,HST.out W4 (bel_tr HB3.out HBP.out)⟩ (fun hHeld18=>?_)
    clear hK K
    try simp only [sp]
    clear hr
    refine tk 12 ?_;simp only [sp]
    refine rd 13 (fun K hK=>?_)
    go_simp
    go_wp2_with fail
    refine hK.out _ _ ⟨(bel_tr HB3.out HBP.out).alloc (bel_tr HB3.out HBP.out).size _,HST.out _ ((bel_tr HB3.out HBP.out).alloc (bel_tr HB3.out HBP.out).size _)⟩ (fun hHeld20=>?_)
    clear hK K
    try simp only [sp]
    refine tk 14 ?_;simp only [sp]
    refine wpAnyH_done (by kernel_rfl) ?_ _
    go_wp2
    go_meet
    have hz:=HBP.out.size
    have hz2:=HZ3.out
    have hz3:=HB3.out.size
    exact hide ⟨_,w3.heap.size,W2.heap.size,_,rfl,fun E=>HNEW.out W4 E w3.heap.size W2.heap.size (bel_tr HB3.out HBP.out) (by omega) (Nat.le_refl _) (by omega) HPN.out (HQ3.out.keep (HBP.out.block _ (by omega))),(bel_tr HB3.out HBP.out).alloc (bel_tr HB3.out HBP.out).size _,fun j hj=>by
     rcases hj with rfl | rfl | rfl <;> omega⟩
 case rest =>
  obtain ⟨A,ahb,wtb,V,rfl,hM,hbc,hXw⟩:=hcut.out
  clear hcut k0 k1 k2 k3 f0 f1 f2 f3 f4 HNEW HW2
  obtain ⟨W5,hW5⟩ : ∃ W5,wc.alloc (.cells #[.slice none 0 0,.pointer none,.int .i64 0] 75)=W5:=⟨_,rfl⟩
  have b5:Below wc.heap.size wc W5:=by rw [← hW5];exact (Below.refl _ _).alloc (Nat.le_refl _) _
  have P5:PileAt (Xf A ahb wtb) W5 wc.heap.size wc.heap.size []:=.nil (by rw [← hW5];exact heap_new _ _ rfl) (fun h=>by have:=((hM 0).lt h).2;omega)
  have M5:=(hM wc.heap.size).below b5
  have hc0:0<f.co.length:=by rw [HCN.out];exact HC0.out
  have CO:=come_any M5 (x:=0) hc0 P5 (by simp) (fun y t ht=>by
   unfold fl00 at ht
   dsimp only at ht
   rw [List.getElem?_replicate] at ht
   split at ht <;> cases ht)
  rw [fl00_come HC0.out] at CO
  have CO2:Calls Tryz.prog 50 #[.pointer (some ⟨A,0,none⟩),.int .i64 0,pp wc.heap.size] W5 (CoO B wc.heap.size A ahb wtb p f V m 0 (.ok (fl0 cn)) W5):=CO
  have HCO:=hide CO2
  have HB5:=hide (bel_tr hbc b5)
  have HXW:=hide hXw
  clear CO CO2 M5 P5 b5 hM hbc hXw
  go_wp2_with fail
  refine HCO.out.mono ?_
  rintro e w6 ⟨⟨⟨v6,rfl⟩,hM6⟩,hK6⟩
  have HM6:=hide hM6
  have HK6:=hide (show Kp (Xf A ahb wtb) W2 w6 from (Kp.of_below HB5.out).trans hK6)
  have a12:w6.cell? ⟨A,12,none⟩=some V.wt:=cell_of hM6.fl.box rfl
  rw [hM6.vw,HCN.out] at a12
  have hlA:A<w6.heap.size:=(hM6.lt (.inl rfl)).2
  have HLE:=hide (least_go hM6)
  rw [HCN.out] at HLE
  clear hM6 hK6 hW5 HCO
  have HFN:=hide (show ∀ W:World,Kp (Xf A ahb wtb) W2 W→W.cell? ⟨w.heap.size+1,4,none⟩=some (.slice x4 cn z4)∧w.heap.size+1<W.heap.size from fun W h=>by
   have h1:W2.cell? ⟨w.heap.size+1,4,none⟩=some (.slice x4 cn z4):=(HST.out W2 (Below.refl _ _)).2.2.2.2.2.2.2.2
   exact ⟨(World.cell?_of_block (a:=⟨w.heap.size+1,4,none⟩) (h.block _ hl1 (fun hx=>absurd (HXW.out _ hx) (Nat.not_le.mpr hl1)))).trans h1,Nat.lt_of_lt_of_le hl1 h.size⟩)
  have HBL:=hide (show ∀ W:World,Kp (Xf A ahb wtb) W2 W→Below w.heap.size w W from fun W h=>⟨h.os.trans HB2.out.os,h.tape.trans HB2.out.tape,h.output.trans HB2.out.output,Nat.le_trans HB2.out.size h.size,fun j hj=>(h.block j (Nat.lt_of_lt_of_le hj HB2.out.size) (fun hx=>by have:=HXW.out _ hx;have:=HB2.out.size;omega)).trans (HB2.out.block j hj)⟩)
  go_wp2_with fail
  refine HLE.out.mono ?_
  rintro e w7 ⟨hk7,(⟨hn7,_⟩ | ⟨x7,hx7,rfl,hM7⟩)⟩
  · exfalso
    have:leastP (fl0 cn).wt=some 0:=least_some (by unfold fl0;dsimp only;rw [List.getElem?_set_self (by have:=HC0.out;simpa using this)];rfl) (fun m hm=>by omega)
    rw [hn7] at this
    cases this
  have HR0:=hide (show FoR B wc.heap.size A ahb wtb p f V m W2 (cn+1) (.int .i64 x7) (.bool true) w7 from ⟨fl0 cn,0,0,by rw [← HCN.out];rfl,by have:=(fl0_inv (p:=p) (f:=f) (by rw [HCN.out];exact HC0.out)).2;rw [HCN.out] at this;omega,by rw [HCN.out];omega,by have:=(fl0_inv (p:=p) (f:=f) (by rw [HCN.out];exact HC0.out)).1;rwa [HCN.out] at this,HK6.out.trans hk7,.inr ⟨x7,hx7,rfl,rfl,hM7⟩⟩)
  clear hk7 hx7 hM7 HLE HM6 HK6 a12 hlA HB5
  go_wp2
  go_loopg [7,8] (cn+1) (fun K a7 a8 wr=>Hid (FoR B wc.heap.size A ahb wtb p f V m W2 K a7 a8 wr))
  case atStart=>exact HR0.out
  case round =>
   clear HR0
   obtain ⟨F,k,at_,hrun,hmm,hkk,hI,hKp,hcs⟩:=hrel.out
   clear hrel
   have HRUN:=hide hrun
   have HMM:=hide hmm
   have HKK:=hide hkk
   have HI:=hide hI
   have HKP:=hide hKp
   clear hrun hmm hkk hI hKp
   rcases hcs with ⟨hl,rfl,rfl,hM⟩ | ⟨x,hl,rfl,rfl,hM⟩
   · have HFO:=hide (show FoO B p f m w (.returned (.pointer (some ⟨A,0,none⟩))) wr from by
      have h1:followP p f=.ok F:=by
       rw [← HRUN.out]
       obtain ⟨K,rfl⟩ : ∃ K,gk=K+1:=⟨gk - 1,by have:=HMM.out;omega⟩
       exact run_none hl
      unfold FoO
      rw [h1]
      exact ⟨⟨A,ahb,wtb,_,V,at_,rfl,hM⟩,HBL.out wr HKP.out⟩)
     clear hM hl
     go_wp2
     go_ret
     exact HFO.out
   · have hx2:=least_inv hl
     obtain ⟨s,hs⟩:=HI.out.wa x hx2
     obtain ⟨hsk,hsl⟩:=HI.out.st x s hs
     have hxc:x<cn:=by rw [← HCN.out,← HI.out.la];exact get_lt hs
     obtain ⟨W8,hW8⟩ : ∃ W8,wr.setCell ⟨A,1,none⟩ (.int .i64 (x:Int))=W8:=⟨_,rfl⟩
     have M8:=hM.stand hW8
     have K8:Kp (Xf A ahb wtb) W2 W8:=HKP.out.trans (Kp.set (.inl rfl) hW8)
     obtain ⟨i,hi,hir,gc,oc,rfl,hgc,c0,c1,c2⟩:=HIN.out W8 x (HBL.out W8 K8) (by rw [HCN.out];exact hxc)
     have hgcw:gc<W8.heap.size:=Nat.lt_of_lt_of_le hgc (Nat.le_trans HBB.out (HBL.out W8 K8).size)
     obtain ⟨cc,hcc,bp,rfl,P8⟩:=M8.cell (x:=x) (o:=some s) hs
     have a1:wr.cell? ⟨A,1,none⟩=some (.int .i64 at_):=cell_of hM.fl.box rfl
     have a1f:wr.frozen? ⟨A,1,none⟩=false:=by simp [World.frozen?,hM.fl.box,flO]
     have hlAr:A<wr.heap.size:=(hM.lt (.inl rfl)).2
     have a11:W8.cell? ⟨A,11,none⟩=some V.ah:=cell_of M8.fl.box rfl
     rw [M8.va,HCN.out] at a11
     have hlA8:A<W8.heap.size:=(M8.lt (.inl rfl)).2
     have hlh8:ahb<W8.heap.size:=(M8.lt (.inr (.inl rfl))).2
     obtain ⟨fc,hfl⟩:=HFN.out W8 K8
     have hkle:4096*k≤300000000:=by have:=HKK.out;have:=HNC.out;have:=HCN.out;omega
     have LK:=look_any (M8.below (below_drew (Below.refl _ _))) H HFF.out (by rw [HCN.out];exact hxc) i hir (P8.keep (Kp.drew _ _)) hsk (by omega) (fun y t ht=>by have:=(HI.out.st y t ht).2;omega)
     have hstep:lkR p f x i s { F with wt:=F.wt.set x false }=stepP p f x F:=(step_lk i (by rw [hi];rfl) (by rw [hs];rfl)).symm
     rw [hstep] at LK
     have HLK:=hide LK
     have HK8:=hide K8
     have HL:=hide hl
     have d1:decide (x<cn)=true:=by simpa using hxc
     have HRR:=hide (show ∃ K,gk=K+1∧followP p f=match stepP p f x F with
         | .error e=>.error (x,e)
         | .ok G=>runP p f K G from by
       obtain ⟨K,rfl⟩ : ∃ K,gk=K+1:=⟨gk - 1,by have:=HMM.out;omega⟩
       exact ⟨K,rfl,by rw [← HRUN.out];exact run_some hl⟩)
     have HCL:=hide (show ∀ W:World,Below W8.heap.size W8 W→W.cell? ⟨w.heap.size+1,4,none⟩=some (.slice (some ⟨gc,oc,none⟩) cn z4)∧W.cell? ⟨gc,oc+x*3,none⟩=some (.int .i64 i.o)∧W.cell? ⟨gc,oc+x*3+1,none⟩=some (.int .i64 i.a)∧W.cell? ⟨gc,oc+x*3+2,none⟩=some (.int .i64 i.b)∧W.cell? ⟨A,11,none⟩=some (.slice (some ⟨ahb,0,none⟩) cn cn)∧W.cell? ⟨ahb,x,none⟩=some (pp bp) from fun W h=>⟨(h.cell (p:=⟨w.heap.size+1,4,none⟩) hfl).trans fc,(h.cell (p:=⟨gc,oc+x*3,none⟩) hgcw).trans c0,(h.cell (p:=⟨gc,oc+x*3+1,none⟩) hgcw).trans c1,(h.cell (p:=⟨gc,oc+x*3+2,none⟩) hgcw).trans c2,(h.cell (p:=⟨A,11,none⟩) hlA8).trans a11,(h.cell (p:=⟨ahb,x,none⟩) hlh8).trans hcc⟩)
     clear hM M8 K8 P8 LK hstep hi hir hs hsk hsl hx2 hl hkle
     cases hst:stepP p f x F with
     | error ee =>
      rw [hst] at HLK HRR
      have HER:=hide (show ∀ W:World,Kp (Xf A ahb wtb) W2 W→FoO B p f m w (.panicked (fch m x ee)) W from fun W h=>by
       obtain ⟨K,_,h2⟩:=HRR.out
       unfold FoO
       rw [h2]
       exact ⟨rfl,HBL.out W h⟩)
      go_wp2_with fail
      refine wp_region_held_drew (S:=(fun W=>W.cell? ⟨w.heap.size+1,4,none⟩=some (.slice (some ⟨gc,oc,none⟩) cn z4)∧W.cell? ⟨gc,oc+x*3,none⟩=some (.int .i64 i.o)∧W.cell? ⟨gc,oc+x*3+1,none⟩=some (.int .i64 i.a)∧W.cell? ⟨gc,oc+x*3+2,none⟩=some (.int .i64 i.b)∧W.cell? ⟨A,11,none⟩=some (.slice (some ⟨ahb,0,none⟩) cn cn)∧W.cell? ⟨ahb,x,none⟩=some (pp bp))) (by kernel_rfl) ⟨fc,c0,c1,c2,a11,hcc⟩ (fun hHeld22=>?_)
      refine tk 0 ?_;simp only [sp]
      refine tk 1 ?_;simp only [sp]
      refine tk 2 ?_;simp only [sp]
      refine tk 3 ?_;simp only [sp]
      refine tk 4 ?_;simp only [sp]
      refine tk 5 ?_;simp only [sp]
      refine tk 6 ?_;simp only [sp]
      refine tk 7 ?_;simp only [sp]
      refine tk 8 ?_;simp only [sp]
      refine tk 9 ?_;simp only [sp]
      refine tk 10 ?_;simp only [sp]
      refine tk 11 ?_;simp only [sp]
      refine tk 12 ?_;simp only [sp]
      refine wpAnyH_ready (rs:=[13]) (by kernel_rfl) (by simp) ?_
      refine AllReadyH.cons (dr rfl) (fun K hK=>?_) AllReadyH.nil
      go_simp
      go_at_call 52
      refine HLK.out.mono ?_
      rintro e w9 ⟨h9,hk9⟩
      have h10:e=.panicked (fch m x ee):=h9
      subst h10
      exact ⟨rfl,HER.out w9 ((HK8.out.trans (Kp.drew _ _)).trans hk9)⟩
     | ok G =>
      rw [hst] at HLK HRR
      have HSI:=hide (step_inv H HFF.out HI.out HL.out hst)
      clear hst
      have HS9:=hide (show ∀ (W:World),Kp (Xf A ahb wtb) W2 W→FlM B wc.heap.size A ahb wtb W p f V m x G→W.cell? ⟨w.heap.size+1,4,none⟩=some (.slice (some ⟨gc,oc,none⟩) cn z4)∧W.cell? ⟨gc,oc+x*3,none⟩=some (.int .i64 i.o)∧W.cell? ⟨gc,oc+x*3+1,none⟩=some (.int .i64 i.a)∧W.cell? ⟨gc,oc+x*3+2,none⟩=some (.int .i64 i.b)∧W.cell? ⟨A,11,none⟩=some (.slice (some ⟨ahb,0,none⟩) cn cn) from fun W hK hM=>by
       have h8:=HK8.out
       have hg2:gc<W2.heap.size:=Nat.lt_of_lt_of_le hgc (Nat.le_trans HBB.out HB2.out.size)
       have hng:¬ Xf A ahb wtb gc:=fun hx=>by have:=(hM.lt hx).1;omega
       have e8:W.heap[gc]?=W8.heap[gc]?:=(hK.block gc hg2 hng).trans (h8.block gc hg2 hng).symm
       have a11' : W.cell? ⟨A,11,none⟩=some V.ah:=cell_of hM.fl.box rfl
       rw [hM.va,HCN.out] at a11'
       exact ⟨(HFN.out W hK).1,(World.cell?_of_block (a:=⟨gc,oc+x*3,none⟩) e8).trans c0,(World.cell?_of_block (a:=⟨gc,oc+x*3+1,none⟩) e8).trans c1,(World.cell?_of_block (a:=⟨gc,oc+x*3+2,none⟩) e8).trans c2,a11'⟩)
      go_wp2_with fail
      refine wp_region_held_drew (S:=(fun W=>W.cell? ⟨w.heap.size+1,4,none⟩=some (.slice (some ⟨gc,oc,none⟩) cn z4)∧W.cell? ⟨gc,oc+x*3,none⟩=some (.int .i64 i.o)∧W.cell? ⟨gc,oc+x*3+1,none⟩=some (.int .i64 i.a)∧W.cell? ⟨gc,oc+x*3+2,none⟩=some (.int .i64 i.b)∧W.cell? ⟨A,11,none⟩=some (.slice (some ⟨ahb,0,none⟩) cn cn))) (by kernel_rfl) ⟨fc,c0,c1,c2,a11⟩ (fun hHeld36=>?_)
      refine tk 0 ?_;simp only [sp]
      refine tk 1 ?_;simp only [sp]
      refine tk 2 ?_;simp only [sp]
      refine tk 3 ?_;simp only [sp]
      refine tk 4 ?_;simp only [sp]
      refine tk 5 ?_;simp only [sp]
      refine tk 6 ?_;simp only [sp]
      refine tk 7 ?_;simp only [sp]
      refine tk 8 ?_;simp only [sp]
      refine tk 9 ?_;simp only [sp]
      refine tk 10 ?_;simp only [sp]
      refine tk 11 ?_;simp only [sp]
      refine rd 12 (fun K hK=>?_)
      go_simp
      go_wp2_with fail
      refine hK.out _ _ ⟨fc,c0,c1,c2,a11⟩ (fun hHeld49=>?_)
      clear hK K
      try simp only [sp]
      refine rd 13 (fun K hK=>?_)
      go_simp
      go_at_call 52
      refine HLK.out.mono ?_
      rintro e w9 ⟨⟨⟨v9,rfl⟩,hM9⟩,hk9⟩
      have HK9:=hide ((HK8.out.trans (Kp.drew _ _)).trans hk9)
      have HM9:=hide hM9
      clear hM9 hk9
      go_wp2_with fail
      refine hK.out _ _ (HS9.out w9 HK9.out HM9.out) (fun hHeld50=>?_)
      clear hK K
      try simp only [sp]
      refine wpAnyH_done (by kernel_rfl) ?_ _
      have a12:w9.cell? ⟨A,12,none⟩=some V.wt:=cell_of HM9.out.fl.box rfl
      rw [HM9.out.vw,HCN.out] at a12
      have hlA9:A<w9.heap.size:=(HM9.out.lt (.inl rfl)).2
      have HLE:=hide (least_go HM9.out)
      rw [HCN.out] at HLE
      clear HLK HCL HS9 fc c0 c1 c2 a11 hcc hW8 a1 a1f
      go_wp2_with fail
      refine HLE.out.mono ?_
      rintro e w10 ⟨hk10,(⟨hn10,rfl,hM10⟩ | ⟨x10,hx10,rfl,hM10⟩)⟩
      · have HK10:=hide (HK9.out.trans hk10)
        have HM10:=hide hM10
        have HN10:=hide hn10
        clear hk10 hM10 hn10
        go_wp2
        go_roundg (gk - 1)
        case measure=>have:=HMM.out;omega
        case rel =>
         obtain ⟨K,hK,h2⟩:=HRR.out
         refine hide ⟨G,k+1,x,?_,?_,?_,HSI.out.1,HK10.out,.inl ⟨HN10.out,rfl,rfl,HM10.out⟩⟩
         · rw [h2,hK];rfl
         · have:=HSI.out.2;have:=HMM.out;omega
         · have:=HKK.out;omega
      · have HK10:=hide (HK9.out.trans hk10)
        have HM10:=hide hM10
        have HN10:=hide hx10
        clear hk10 hM10 hx10
        go_wp2
        go_roundg (gk - 1)
        case measure=>have:=HMM.out;omega
        case rel =>
         obtain ⟨K,hK,h2⟩:=HRR.out
         refine hide ⟨G,k+1,x,?_,?_,?_,HSI.out.1,HK10.out,.inr ⟨x10,HN10.out,rfl,rfl,HM10.out⟩⟩
         · rw [h2,hK];rfl
         · have:=HSI.out.2;have:=HMM.out;omega
         · have:=HKK.out;omega
end
end Go.Proofs.YtkdojpnihinpbaaGreatDoor
