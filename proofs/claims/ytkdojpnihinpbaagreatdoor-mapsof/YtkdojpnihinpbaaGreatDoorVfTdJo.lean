/- takes, the rest. -/
import Derived.Test.YtkdojpnihinpbaaGreatDoorVfTcJo
import Derived.Test.YtkdojpnihinpbaaGreatDoorVfTkJo
namespace Go.Proofs.YtkdojpnihinpbaaGreatDoor
set_option maxRecDepth 100000
set_option maxHeartbeats 1000000
open Go.RowKit
section
variable {B A:Nat} {w w' : World} {p:Pg} {f:Fd} {V:Fv} {fi at_ mo:Int}
theorem tks_drew {n:Nat} {mu:Must} {W:World} {e:Ending} (h:TksO n mu w e W):TksO n mu w e W.drew:=by
 obtain ⟨f,caps,h1,h2,h3⟩:=h
 refine ⟨f,caps,h1,fun m ks hl hk=>?_,below_drew h3⟩
 obtain ⟨Z,U,z1,z2,z3⟩:=h2 m ks hl hk
 exact ⟨Z,U,z1,z2,z2.st 0 W W.drew z3 (fun _ _=>rfl)⟩
theorem tk_24 (F:FlAt B w A p f V fi at_ mo) (i:In3) (hn:p.ty.length≤1024) (ho:i.o=24) (hk:∀ k∈f.re,isKB p.ty.length k=true) (hl:f.re.length≤4096):Calls Tryz.prog 74 #[.pointer (some ⟨A,0,none⟩),.agg #[.int .i64 i.o,.int .i64 i.a,.int .i64 i.b]] w (TksO p.ty.length (.fit f.re) w):=by
 obtain ⟨ra,rc,hr⟩:=sl_form F.re
 obtain ⟨W1,hW1,b1,hI⟩:=bxi w i
 have F1:=F.below b1
 have HB:=hide b1
 have HF1:=hide F1
 have i0:W1.cell? ⟨w.heap.size,0,none⟩=some (.int .i64 i.o):=cell_of hI rfl
 have i1:W1.cell? ⟨w.heap.size,1,none⟩=some (.int .i64 i.a):=cell_of hI rfl
 have hlA:=lt_of_block F.box
 have hlI:=lt_of_block hI
 have HN:=hide hn
 clear b1 F1 hI F hn
 have c8:W1.cell? ⟨A,8,none⟩=some V.u2:=cell_of HF1.out.box rfl
 rw [hr] at c8
 have HI:=hide (is_of_sl (X:=fun _=>False) (hr ▸ HF1.out.re) HF1.out.hB (fun _ _ h=>h))
 have HK:=hide hk
 have HL:=hide hl
 have HT:=hide (fun T=>tks_fit (T:=T) HN.out HB.out HK.out (by have:=HL.out;omega) HI.out)
 clear hr hk hl HI HK HL HN
 generalize f.re.length=rl at *
 rw [ho] at i0 hW1 ⊢
 clear ho
 go_enter Tryz.func74,Tryz.ntmps74
 go_wp2_with fail
 refine (fitting_any _ _ _ _).mono ?_
 rintro e w3 ⟨rfl,rfl⟩
 go_wp2
 go_ret2
 exact HT.out _
theorem tk_4 (F:FlAt B w A p f V fi at_ mo) (i:In3) (hn:p.ty.length≤1024) (ho:i.o=4) {k:Nat} {o:Int} (ha:i.a=(k:Int)) (hx:f.lo[k]?=some o) (hko:isKB p.ty.length o=true):Calls Tryz.prog 74 #[.pointer (some ⟨A,0,none⟩),.agg #[.int .i64 i.o,.int .i64 i.a,.int .i64 i.b]] w (TksO p.ty.length (.fit [o]) w):=by
 obtain ⟨ra,rc,hr⟩:=sl_form F.lo
 obtain ⟨W1,hW1,b1,hI⟩:=bxi w i
 have F1:=F.below b1
 have HB:=hide b1
 have HF1:=hide F1
 have i0:W1.cell? ⟨w.heap.size,0,none⟩=some (.int .i64 i.o):=cell_of hI rfl
 have i1:W1.cell? ⟨w.heap.size,1,none⟩=some (.int .i64 i.a):=cell_of hI rfl
 have hlA:=lt_of_block F.box
 have hlI:=lt_of_block hI
 have HN:=hide hn
 clear b1 F1 hI F hn
 have c7:W1.cell? ⟨A,7,none⟩=some V.u1:=cell_of HF1.out.box rfl
 obtain ⟨ao,cap,hao,_,hel⟩:=HF1.out.lo
 rw [hao] at c7
 obtain ⟨g,q,rfl,hg,hc,_⟩:=ints_at hel hx
 have hgw:g<W1.heap.size:=Nat.lt_of_lt_of_le hg HF1.out.hB
 have hlt:k<f.lo.length:=get_lt hx
 have e1:decide (k<f.lo.length)=true:=by simpa using hlt
 have HT:=hide (fun (W:World) (h:Below w.heap.size w W) T1 T2=>tks_lit (os:=[o]) (T1:=T1) (T2:=T2) HN.out h (by intro x hx;simp at hx;subst hx;exact hko) (by simp) rfl)
 rw [ha] at i1 hW1 ⊢
 have HCL:=hide (show ∀ W:World,Below W1.heap.size W1 W→W.cell? ⟨A,7,none⟩=some (.slice (some ⟨g,q,none⟩) f.lo.length cap)∧W.cell? ⟨w.heap.size,1,none⟩=some (.int .i64 k)∧W.cell? ⟨g,q+k,none⟩=some (.int .i64 o) from fun W h=>⟨(h.cell (p:=⟨A,7,none⟩) (World.block_lt_of_cell? W1 _ c7)).trans c7,(h.cell (p:=⟨w.heap.size,1,none⟩) (World.block_lt_of_cell? W1 _ i1)).trans i1,(h.cell (p:=⟨g,q+k,none⟩) (World.block_lt_of_cell? W1 _ hc)).trans hc⟩)
 clear hr hao hel hx hko ha HN
 generalize f.lo.length=ll at *
 rw [ho] at i0 hW1 ⊢
 clear ho
 go_enter Tryz.func74,Tryz.ntmps74
 go_wp2_with fail
 refine wp_region_held_drew (S:=(fun W=>W.cell? ⟨A,7,none⟩=some (.slice (some ⟨g,q,none⟩) ll cap)∧W.cell? ⟨w.heap.size,1,none⟩=some (.int .i64 k)∧W.cell? ⟨g,q+k,none⟩=some (.int .i64 o))) (by kernel_rfl) ⟨c7,i1,hc⟩ (fun hHeld1=>?_)
 refine tk 0 ?_;simp only [sp]
 refine tk 1 ?_;simp only [sp]
 refine tk 2 ?_;simp only [sp]
 refine tk 3 ?_;simp only [sp]
 refine tk 4 ?_;simp only [sp]
 refine tk 5 ?_;simp only [sp]
 refine tk 6 ?_;simp only [sp]
 refine tk 7 ?_;simp only [sp]
 refine tk 8 ?_;simp only [sp]
 refine rd 9 (fun K hK=>?_)
 go_simp
 go_wp2_with fail
 refine hK.out _ _ (HCL.out _ (below_drew ((Below.refl _ _).alloc (Nat.le_refl _) _))) (fun hHeld11=>?_)
 clear hK K
 try simp only [sp]
 refine rd 10 (fun K hK=>?_)
 go_simp
 go_at_call 86
 refine (fitting_any _ _ _ _).mono ?_
 rintro e w3 ⟨rfl,rfl⟩
 go_wp2_with fail
 refine hK.out _ _ (HCL.out _ (below_drew (((Below.refl _ _).alloc (Nat.le_refl _) _).alloc (by simp) _))) (fun hHeld12=>?_)
 clear hK K
 try simp only [sp]
 refine tk 11 ?_;simp only [sp]
 refine tk 12 ?_;simp only [sp]
 refine tk 13 ?_;simp only [sp]
 refine tk 14 ?_;simp only [sp]
 refine wpAnyH_done (by kernel_rfl) ?_ _
 go_wp2
 go_ret2
 exact tks_drew (HT.out W1 HB.out 3 37)
theorem tk_22 (F:FlAt B w A p f V fi at_ mo) (i:In3) (hn:p.ty.length≤1024) (ho:i.o=22) {m:Nat} {g:Fd} (ha:i.a=(m:Int)) (hx:p.fu[m]?=some g) (hp:0≤g.pa∧g.pa≤(g.lo.length:Int)) (hk:∀ k∈parK g,isKB p.ty.length k=true) (hl:g.lo.length≤4096):Calls Tryz.prog 74 #[.pointer (some ⟨A,0,none⟩),.agg #[.int .i64 i.o,.int .i64 i.a,.int .i64 i.b]] w (TksO p.ty.length (.fit (parK g)) w):=by
 obtain ⟨W1,hW1,b1,hI⟩:=bxi w i
 have F1:=F.below b1
 have HB:=hide b1
 have HF1:=hide F1
 have i0:W1.cell? ⟨w.heap.size,0,none⟩=some (.int .i64 i.o):=cell_of hI rfl
 have i1:W1.cell? ⟨w.heap.size,1,none⟩=some (.int .i64 i.a):=cell_of hI rfl
 have hlA:=lt_of_block F.box
 have hlI:=lt_of_block hI
 have HN:=hide hn
 clear b1 F1 hI F hn
 have c3:W1.cell? ⟨A,3,none⟩=some V.v2:=cell_of HF1.out.box rfl
 obtain ⟨gg,oo,c,n,v1,v2,v3,v4,hv,hnn,hlt,hg,⟨y0,y1,y2,y3,y4⟩,r1,r2,r3,r4⟩:=fd_at HF1.out.pg.fu hx
 rw [hv] at c3
 obtain ⟨x1,z1,rfl⟩:=sl_form r1
 obtain ⟨x2,z2,rfl⟩:=sl_form r2
 obtain ⟨x3,z3,rfl⟩:=sl_form r3
 obtain ⟨x4,z4,rfl⟩:=sl_form r4
 have hgw:gg<W1.heap.size:=Nat.lt_of_lt_of_le hg HF1.out.hB
 have e1:decide (m<n)=true:=by simpa using hlt
 obtain ⟨q,hq⟩ : ∃ q:Nat,g.pa=(q:Int):=⟨g.pa.toNat,by omega⟩
 have hpl:(parK g).length=q:=by unfold parK;rw [hq,List.length_take];simp;omega
 have HS:=hide (show SlAt 1 IntP B W1 (.slice x1 q z1) (parK g) from by
  have:=ints_take r1 q (by omega)
  unfold parK
  rw [hq]
  exact this)
 have hcap:q≤g.lo.length∧g.lo.length≤z1:=by
  obtain ⟨_,_,h1,h2,_⟩:=r1
  cases h1
  omega
 have HT:=hide (fun (W:World) (h:Below W1.heap.size W1 W) T=>by
  have:=tks_fit (w:=w) (T:=T) HN.out (bel_tr HB.out h) hk (by rw [hpl];omega) (hpl ▸ is_of_sl (X:=fun _=>False) (ints_keep (Nat.le_refl _) (fun j hj=>h.block j (Nat.lt_of_lt_of_le hj HF1.out.hB)) HS.out) (Nat.le_trans HF1.out.hB h.size) (fun _ _ h=>h))
  rw [hpl] at this
  exact this)
 rw [hq] at y0
 have HPA:=hide (fun W:World=>params_at W (ao:=x1) (v2:=.slice x2 g.re.length z2) (v3:=.slice x3 g.ar.length z3) (v4:=.slice x4 g.co.length z4) hcap.1 hcap.2)
 have HCL:=hide (show ∀ W:World,Below W1.heap.size W1 W→W.cell? ⟨A,3,none⟩=some (.slice (some ⟨gg,oo,none⟩) n c)∧W.cell? ⟨w.heap.size,1,none⟩=some (.int .i64 i.a) from fun W h=>⟨(h.cell (p:=⟨A,3,none⟩) (World.block_lt_of_cell? W1 _ c3)).trans c3,(h.cell (p:=⟨w.heap.size,1,none⟩) (World.block_lt_of_cell? W1 _ i1)).trans i1⟩)
 rw [ha] at i1 hW1 HCL ⊢
 clear hv hnn hx hp hk hl ha r1 r2 r3 r4 HN hq hpl HS hcap
 generalize g.lo.length=l1 at *
 generalize g.re.length=l2 at *
 generalize g.ar.length=l3 at *
 generalize g.co.length=l4 at *
 rw [ho] at i0 hW1 ⊢
 clear ho
 go_enter Tryz.func74,Tryz.ntmps74
 go_wp2_with fail
 refine wp_region_held_drew (S:=(fun W=>W.cell? ⟨A,3,none⟩=some (.slice (some ⟨gg,oo,none⟩) n c)∧W.cell? ⟨w.heap.size,1,none⟩=some (.int .i64 m)∧W.cell? ⟨gg,oo+m*5,none⟩=some (.int .i64 q)∧W.cell? ⟨gg,oo+m*5+1,none⟩=some (.slice x1 l1 z1)∧W.cell? ⟨gg,oo+m*5+2,none⟩=some (.slice x2 l2 z2)∧W.cell? ⟨gg,oo+m*5+3,none⟩=some (.slice x3 l3 z3)∧W.cell? ⟨gg,oo+m*5+4,none⟩=some (.slice x4 l4 z4))) (by kernel_rfl) ⟨c3,i1,y0,y1,y2,y3,y4⟩ (fun hHeld17=>?_)
 refine tk 0 ?_;simp only [sp]
 refine tk 1 ?_;simp only [sp]
 refine tk 2 ?_;simp only [sp]
 refine tk 3 ?_;simp only [sp]
 refine tk 4 ?_;simp only [sp]
 refine tk 5 ?_;simp only [sp]
 refine tk 6 ?_;simp only [sp]
 refine tk 7 ?_;simp only [sp]
 refine tk 8 ?_;simp only [sp]
 refine rd 9 (fun K hK=>?_)
 go_simp
 go_at_call 93
 refine (HPA.out _).mono ?_
 rintro e w3 ⟨rfl,hb3⟩
 have HZ:=hide (show Below W1.heap.size W1 w3 from bel_tr (below_drew (Below.refl _ _)) hb3)
 have hke:∀ {b o:Nat} {u:Value},W1.cell? ⟨b,o,none⟩=some u→w3.cell? ⟨b,o,none⟩=some u:=fun {b o u} h=>(HZ.out.cell (p:=⟨b,o,none⟩) (World.block_lt_of_cell? W1 _ h)).trans h
 have HKE:=hide (show w3.cell? ⟨A,3,none⟩=some (.slice (some ⟨gg,oo,none⟩) n c)∧w3.cell? ⟨w.heap.size,1,none⟩=some (.int .i64 m)∧w3.cell? ⟨gg,oo+m*5,none⟩=some (.int .i64 q)∧w3.cell? ⟨gg,oo+m*5+1,none⟩=some (.slice x1 l1 z1)∧w3.cell? ⟨gg,oo+m*5+2,none⟩=some (.slice x2 l2 z2)∧w3.cell? ⟨gg,oo+m*5+3,none⟩=some (.slice x3 l3 z3)∧w3.cell? ⟨gg,oo+m*5+4,none⟩=some (.slice x4 l4 z4) from ⟨hke c3,hke i1,hke y0,hke y1,hke y2,hke y3,hke y4⟩)
 clear hke
 go_wp2_with fail
 refine hK.out _ _ HKE.out (fun hHeld27=>?_)
 clear hK K
 try simp only [sp]
 refine rd 10 (fun K hK=>?_)
 go_simp
 go_at_call 86
 refine (fitting_any _ _ _ _).mono ?_
 rintro e w4 ⟨rfl,rfl⟩
 have HK5:=hide (show ∀ (b o:Nat) (u:Value),w3.cell? ⟨b,o,none⟩=some u→(w3.alloc (.cells #[.slice x1 q z1] 37)).cell? ⟨b,o,none⟩=some u from fun b o u h=>(((Below.refl w3.heap.size w3).alloc (Nat.le_refl _) _).cell (p:=⟨b,o,none⟩) (World.block_lt_of_cell? w3 _ h)).trans h)
 obtain ⟨j1,j2,j3,j4,j5,j6,j7⟩:=HKE.out
 go_wp2_with fail
 refine hK.out _ _ ⟨HK5.out _ _ _ j1,HK5.out _ _ _ j2,HK5.out _ _ _ j3,HK5.out _ _ _ j4,HK5.out _ _ _ j5,HK5.out _ _ _ j6,HK5.out _ _ _ j7⟩ (fun hHeld28=>?_)
 clear hK K
 try simp only [sp]
 refine tk 11 ?_;simp only [sp]
 refine tk 12 ?_;simp only [sp]
 refine tk 13 ?_;simp only [sp]
 refine tk 14 ?_;simp only [sp]
 refine wpAnyH_done (by kernel_rfl) ?_ _
 go_wp2
 go_ret2
 exact HT.out w3 HZ.out _
end
end Go.Proofs.YtkdojpnihinpbaaGreatDoor

namespace Go.Proofs.YtkdojpnihinpbaaGreatDoor
open Go.RowKit
section
variable {B A:Nat} {w w' : World} {p:Pg} {f:Fd} {V:Fv} {fi at_ mo:Int}
set_option maxRecDepth 100000 in
set_option maxHeartbeats 1000000 in
theorem tk_23 (F:FlAt B w A p f V fi at_ mo) (i:In3) (hn:p.ty.length≤1024) (ho:i.o=23) {t m0:Nat} {tb:List Int} {g:Fd} (ha:i.a=(t:Int)) (ht:p.ta[t]?=some tb) (h0:tb[0]?=some (m0:Int)) (hx:p.fu[m0]?=some g) (hp:0≤g.pa∧g.pa≤(g.lo.length:Int)) (hk:∀ k∈parK g,isKB p.ty.length k=true) (hl:g.lo.length≤4096):Calls Tryz.prog 74 #[.pointer (some ⟨A,0,none⟩),.agg #[.int .i64 i.o,.int .i64 i.a,.int .i64 i.b]] w (TksO p.ty.length (.fit (parK g++[0])) w):=by
 obtain ⟨W1,hW1,b1,hI⟩:=bxi w i
 have F1:=F.below b1
 have HB:=hide b1
 have HF1:=hide F1
 have i0:W1.cell? ⟨w.heap.size,0,none⟩=some (.int .i64 i.o):=cell_of hI rfl
 have i1:W1.cell? ⟨w.heap.size,1,none⟩=some (.int .i64 i.a):=cell_of hI rfl
 have hlA:=lt_of_block F.box
 have hlI:=lt_of_block hI
 have HN:=hide hn
 clear b1 F1 hI F hn
 obtain ⟨v1,v2,v3,v4,⟨r1,r2,r3,r4⟩,CI⟩:=item_any HF1.out ht h0 hx
 obtain ⟨x1,z1,rfl⟩:=sl_form r1
 obtain ⟨q,hq⟩ : ∃ q:Nat,g.pa=(q:Int):=⟨g.pa.toNat,by omega⟩
 have hpl:(parK g).length=q:=by unfold parK;rw [hq,List.length_take];simp;omega
 have HS:=hide (show SlAt 1 IntP B W1 (.slice x1 q z1) (parK g) from by
  have:=ints_take r1 q (by omega)
  unfold parK
  rw [hq]
  exact this)
 have hcap:q≤g.lo.length∧g.lo.length≤z1:=by
  obtain ⟨_,_,h1,h2,_⟩:=r1
  cases h1
  omega
 have HPA:=hide (fun W:World=>params_at W (ao:=x1) (v2:=v2) (v3:=v3) (v4:=v4) hcap.1 hcap.2)
 have HQ:=hide (show q≤4096 by omega)
 rw [hq] at CI
 have HCI:=hide CI
 have HT:=hide (fun (W:World) (h:Below w.heap.size w W) (a:Option Addr) (c T:Nat) (K:IsAt (fun _=>False) W (.slice a (q+1) c) (parK g++[0]))=>by
  have hq1:(parK g++[0]).length=q+1:=by rw [List.length_append,hpl];rfl
  have:=tks_fit (w:=w) (T:=T) (os:=parK g++[0]) (a:=a) (cap:=c) HN.out h (by
    intro o ho
    rw [List.mem_append] at ho
    rcases ho with ho | ho
    · exact hk o ho
    · simp at ho
      subst ho
      exact kb_0 _) (by rw [hq1];omega) (hq1.symm ▸ K)
  rw [hq1] at this
  exact this)
 have HPL:=hide hpl
 rw [ha] at i1 hW1 ⊢
 clear ht h0 hx hp hk hl ha r1 r2 r3 r4 HN hq hpl hcap CI
 generalize g.lo.length=l1 at *
 rw [ho] at i0 hW1 ⊢
 clear ho
 go_enter Tryz.func74,Tryz.ntmps74
 go_wp2_with fail
 refine HCI.out.mono ?_
 rintro e w2 ⟨rfl,hb2⟩
 have HB2:=hide hb2
 clear hb2
 go_wp2_with fail
 refine (HPA.out _).mono ?_
 rintro e w3 ⟨rfl,hb3⟩
 have HB3:=hide (bel_tr HB2.out hb3)
 clear hb3
 have HC:=hide (clone_any (w:=w3) (is_of_sl (X:=fun _=>False) (ints_keep (Nat.le_refl _) (fun j hj=>HB3.out.block j (Nat.lt_of_lt_of_le hj HF1.out.hB)) HS.out) (Nat.le_trans HF1.out.hB HB3.out.size) (fun _ _ h=>h)) (by rw [HPL.out];have:=HQ.out;omega))
 go_wp2_with fail
 refine HC.out.mono ?_
 rintro e w4 ⟨v',rfl,hown,hb4⟩
 have hown2:(w4.alloc (.cells #[.int .i64 0] 3)).ownsRow w3.heap.size 3 1 v' (parK g).length (intsV (parK g)):=ownsRow_keep hown fun q hq=>Below.heap_alloc _ _ _ (by
   rcases hown.2 with ⟨h,_⟩ | ⟨g',cap,cur,h,_,h2,_⟩
   · rw [h] at hq;cases hq
   · rw [h] at hq;cases hq;exact lt_of_block h2)
 have hz4:(w4.alloc (.cells #[.int .i64 0] 3)).heap.size=w4.heap.size+1:=by simp
 obtain ⟨ga,capa,w5,hrun,hown5,hgrow,_,_⟩:=run_app1 (b:=w4.heap.size) (a:=0) hown2 (heap_new _ _ rfl) (by rw [HPL.out];have:=HQ.out;omega) (by have:=hb4.size;omega)
 have HB5:=hide (show Below w.heap.size w w5 from by
  have h1:Below w3.heap.size w3 (w4.alloc (.cells #[.int .i64 0] 3)):=hb4.alloc hb4.size _
  have h2:=h1.trans (grown_below hown2 hgrow (by have:=hb4.size;omega))
  exact bel_tr HB.out (bel_tr HB3.out h2))
 have HI5:=hide (show IsAt (fun _=>False) w5 (.slice (some ⟨ga,0,none⟩) (q+1) capa) (parK g++[0]) from by
  have h1:=row_is (l:=parK g++[0]) (by simpa using hown5) (by simp)
  rw [HPL.out] at h1
  exact h1.sub (fun _ _ h=>h.elim))
 rw [HPL.out] at hrun
 clear hown hown2 hown5 hgrow hb4 hz4
 go_wp2_with (at_builtin;refine wpList_append_eq rfl _ _ 37 37 rfl rfl rfl hrun ?_;clear hrun)
 refine (fitting_any _ _ _ _).mono ?_
 rintro e w6 ⟨rfl,rfl⟩
 go_wp2
 go_ret2
 exact HT.out _ HB5.out _ _ _ HI5.out
end
end Go.Proofs.YtkdojpnihinpbaaGreatDoor

namespace Go.Proofs.YtkdojpnihinpbaaGreatDoor
set_option maxRecDepth 100000
set_option maxHeartbeats 1000000
open Go.RowKit
def PtO (X:Nat→Prop) (fi at_:Int) (r:Except Int (List Int)) (w:World) (e:Ending) (W:World):Prop:=(match r with
  | .ok l=>∃ v,e=.returned v∧IsAt X W v l
  | .error x=>e=.panicked (fch fi at_ x))∧Below w.heap.size w W
section
variable {B A:Nat} {w w' : World} {p:Pg} {f:Fd} {V:Fv} {fi at_ mo:Int} {X:Nat→Prop}
theorem pt_new {W:World} {l:List Int} {C:Array Value} {T:TypeId} {n:Nat} (hX:∀ j,X j→B≤j∧j<w.heap.size) (hb:Below w.heap.size w W) (hl:l.length≤4096) (hC:C=(l.map (Value.int .i64)).toArray) (hn:n=l.length):PtO X fi at_ (.ok l) w (.returned (.slice (some ⟨W.heap.size,0,none⟩) n n)) (W.alloc (.cells C T)):=by
 subst hC hn
 exact ⟨⟨_,rfl,isAt_new (heap_new _ _ rfl) (fun h=>by have:=(hX _ h).2;have:=hb.size;omega) hl⟩,hb.alloc hb.size _⟩
theorem pt_drew {r:Except Int (List Int)} {e:Ending} {W:World} (h:PtO X fi at_ r w e W):PtO X fi at_ r w e W.drew:=by
 cases r with
 | ok l =>
  obtain ⟨⟨v,h1,h2⟩,h3⟩:=h
  exact ⟨⟨v,h1,h2.keep (Kp.drew _ _)⟩,below_drew h3⟩
 | error x=>exact ⟨h.1,below_drew h.2⟩
theorem pu_1 (F:FlAt B w A p f V fi at_ mo) (i:In3) (top low:Int) (hX:∀ j,X j→B≤j∧j<w.heap.size) (ho:i.o=1):Calls Tryz.prog 76 #[.pointer (some ⟨A,0,none⟩),.agg #[.int .i64 i.o,.int .i64 i.a,.int .i64 i.b],.int .i64 top,.int .i64 low] w (PtO X fi at_ (.ok [0]) w):=by
 obtain ⟨W1,hW1,b1,hI⟩:=bxi w i
 have F1:=F.below b1
 have HB:=hide b1
 have HF1:=hide F1
 have HX:=hide hX
 have i0:W1.cell? ⟨w.heap.size,0,none⟩=some (.int .i64 i.o):=cell_of hI rfl
 have i1:W1.cell? ⟨w.heap.size,1,none⟩=some (.int .i64 i.a):=cell_of hI rfl
 have i2:W1.cell? ⟨w.heap.size,2,none⟩=some (.int .i64 i.b):=cell_of hI rfl
 have hlA:=lt_of_block F.box
 have hlI:=lt_of_block hI
 clear b1 F1 hI F hX
 rw [ho] at i0 hW1 ⊢
 clear ho
 go_enter Tryz.func76,Tryz.ntmps76
 go_wp2
 go_ret
 exact pt_new HX.out HB.out (by simp) rfl rfl
theorem pu_7 (F:FlAt B w A p f V fi at_ mo) (i:In3) (top low:Int) (hX:∀ j,X j→B≤j∧j<w.heap.size) (ho:i.o=7):Calls Tryz.prog 76 #[.pointer (some ⟨A,0,none⟩),.agg #[.int .i64 i.o,.int .i64 i.a,.int .i64 i.b],.int .i64 top,.int .i64 low] w (PtO X fi at_ (.ok [0]) w):=by
 obtain ⟨W1,hW1,b1,hI⟩:=bxi w i
 have F1:=F.below b1
 have HB:=hide b1
 have HF1:=hide F1
 have HX:=hide hX
 have i0:W1.cell? ⟨w.heap.size,0,none⟩=some (.int .i64 i.o):=cell_of hI rfl
 have i1:W1.cell? ⟨w.heap.size,1,none⟩=some (.int .i64 i.a):=cell_of hI rfl
 have i2:W1.cell? ⟨w.heap.size,2,none⟩=some (.int .i64 i.b):=cell_of hI rfl
 have hlA:=lt_of_block F.box
 have hlI:=lt_of_block hI
 clear b1 F1 hI F hX
 rw [ho] at i0 hW1 ⊢
 clear ho
 go_enter Tryz.func76,Tryz.ntmps76
 go_wp2
 go_ret
 exact pt_new HX.out HB.out (by simp) rfl rfl
theorem pu_8 (F:FlAt B w A p f V fi at_ mo) (i:In3) (top low:Int) (hX:∀ j,X j→B≤j∧j<w.heap.size) (ho:i.o=8):Calls Tryz.prog 76 #[.pointer (some ⟨A,0,none⟩),.agg #[.int .i64 i.o,.int .i64 i.a,.int .i64 i.b],.int .i64 top,.int .i64 low] w (PtO X fi at_ (.ok [0]) w):=by
 obtain ⟨W1,hW1,b1,hI⟩:=bxi w i
 have F1:=F.below b1
 have HB:=hide b1
 have HF1:=hide F1
 have HX:=hide hX
 have i0:W1.cell? ⟨w.heap.size,0,none⟩=some (.int .i64 i.o):=cell_of hI rfl
 have i1:W1.cell? ⟨w.heap.size,1,none⟩=some (.int .i64 i.a):=cell_of hI rfl
 have i2:W1.cell? ⟨w.heap.size,2,none⟩=some (.int .i64 i.b):=cell_of hI rfl
 have hlA:=lt_of_block F.box
 have hlI:=lt_of_block hI
 clear b1 F1 hI F hX
 rw [ho] at i0 hW1 ⊢
 clear ho
 go_enter Tryz.func76,Tryz.ntmps76
 go_wp2
 go_ret
 exact pt_new HX.out HB.out (by simp) rfl rfl
theorem pu_18 (F:FlAt B w A p f V fi at_ mo) (i:In3) (top low:Int) (hX:∀ j,X j→B≤j∧j<w.heap.size) (ho:i.o=18):Calls Tryz.prog 76 #[.pointer (some ⟨A,0,none⟩),.agg #[.int .i64 i.o,.int .i64 i.a,.int .i64 i.b],.int .i64 top,.int .i64 low] w (PtO X fi at_ (.ok [0]) w):=by
 obtain ⟨W1,hW1,b1,hI⟩:=bxi w i
 have F1:=F.below b1
 have HB:=hide b1
 have HF1:=hide F1
 have HX:=hide hX
 have i0:W1.cell? ⟨w.heap.size,0,none⟩=some (.int .i64 i.o):=cell_of hI rfl
 have i1:W1.cell? ⟨w.heap.size,1,none⟩=some (.int .i64 i.a):=cell_of hI rfl
 have i2:W1.cell? ⟨w.heap.size,2,none⟩=some (.int .i64 i.b):=cell_of hI rfl
 have hlA:=lt_of_block F.box
 have hlI:=lt_of_block hI
 clear b1 F1 hI F hX
 rw [ho] at i0 hW1 ⊢
 clear ho
 go_enter Tryz.func76,Tryz.ntmps76
 go_wp2
 go_ret
 exact pt_new HX.out HB.out (by simp) rfl rfl
theorem pu_20 (F:FlAt B w A p f V fi at_ mo) (i:In3) (top low:Int) (hX:∀ j,X j→B≤j∧j<w.heap.size) (ho:i.o=20):Calls Tryz.prog 76 #[.pointer (some ⟨A,0,none⟩),.agg #[.int .i64 i.o,.int .i64 i.a,.int .i64 i.b],.int .i64 top,.int .i64 low] w (PtO X fi at_ (.ok [0]) w):=by
 obtain ⟨W1,hW1,b1,hI⟩:=bxi w i
 have F1:=F.below b1
 have HB:=hide b1
 have HF1:=hide F1
 have HX:=hide hX
 have i0:W1.cell? ⟨w.heap.size,0,none⟩=some (.int .i64 i.o):=cell_of hI rfl
 have i1:W1.cell? ⟨w.heap.size,1,none⟩=some (.int .i64 i.a):=cell_of hI rfl
 have i2:W1.cell? ⟨w.heap.size,2,none⟩=some (.int .i64 i.b):=cell_of hI rfl
 have hlA:=lt_of_block F.box
 have hlI:=lt_of_block hI
 clear b1 F1 hI F hX
 rw [ho] at i0 hW1 ⊢
 clear ho
 go_enter Tryz.func76,Tryz.ntmps76
 go_wp2
 go_ret
 exact pt_new HX.out HB.out (by simp) rfl rfl
theorem pu_19 (F:FlAt B w A p f V fi at_ mo) (i:In3) (top low:Int) (hX:∀ j,X j→B≤j∧j<w.heap.size) (ho:i.o=19):Calls Tryz.prog 76 #[.pointer (some ⟨A,0,none⟩),.agg #[.int .i64 i.o,.int .i64 i.a,.int .i64 i.b],.int .i64 top,.int .i64 low] w (PtO X fi at_ (.ok [1]) w):=by
 obtain ⟨W1,hW1,b1,hI⟩:=bxi w i
 have F1:=F.below b1
 have HB:=hide b1
 have HF1:=hide F1
 have HX:=hide hX
 have i0:W1.cell? ⟨w.heap.size,0,none⟩=some (.int .i64 i.o):=cell_of hI rfl
 have i1:W1.cell? ⟨w.heap.size,1,none⟩=some (.int .i64 i.a):=cell_of hI rfl
 have i2:W1.cell? ⟨w.heap.size,2,none⟩=some (.int .i64 i.b):=cell_of hI rfl
 have hlA:=lt_of_block F.box
 have hlI:=lt_of_block hI
 clear b1 F1 hI F hX
 rw [ho] at i0 hW1 ⊢
 clear ho
 go_enter Tryz.func76,Tryz.ntmps76
 go_wp2
 go_ret
 exact pt_new HX.out HB.out (by simp) rfl rfl
theorem pu_2 (F:FlAt B w A p f V fi at_ mo) (i:In3) (top low:Int) (hX:∀ j,X j→B≤j∧j<w.heap.size) (ho:i.o=2):Calls Tryz.prog 76 #[.pointer (some ⟨A,0,none⟩),.agg #[.int .i64 i.o,.int .i64 i.a,.int .i64 i.b],.int .i64 top,.int .i64 low] w (PtO X fi at_ (.ok [i.a]) w):=by
 obtain ⟨W1,hW1,b1,hI⟩:=bxi w i
 have F1:=F.below b1
 have HB:=hide b1
 have HF1:=hide F1
 have HX:=hide hX
 have i0:W1.cell? ⟨w.heap.size,0,none⟩=some (.int .i64 i.o):=cell_of hI rfl
 have i1:W1.cell? ⟨w.heap.size,1,none⟩=some (.int .i64 i.a):=cell_of hI rfl
 have i2:W1.cell? ⟨w.heap.size,2,none⟩=some (.int .i64 i.b):=cell_of hI rfl
 have hlA:=lt_of_block F.box
 have hlI:=lt_of_block hI
 clear b1 F1 hI F hX
 rw [ho] at i0 hW1 ⊢
 clear ho
 go_enter Tryz.func76,Tryz.ntmps76
 go_wp2
 go_ret
 exact pt_new HX.out HB.out (by simp) rfl rfl
theorem pu_6 (F:FlAt B w A p f V fi at_ mo) (i:In3) (top low:Int) (hX:∀ j,X j→B≤j∧j<w.heap.size) (ho:i.o=6):Calls Tryz.prog 76 #[.pointer (some ⟨A,0,none⟩),.agg #[.int .i64 i.o,.int .i64 i.a,.int .i64 i.b],.int .i64 top,.int .i64 low] w (PtO X fi at_ (.ok [low,low]) w):=by
 obtain ⟨W1,hW1,b1,hI⟩:=bxi w i
 have F1:=F.below b1
 have HB:=hide b1
 have HF1:=hide F1
 have HX:=hide hX
 have i0:W1.cell? ⟨w.heap.size,0,none⟩=some (.int .i64 i.o):=cell_of hI rfl
 have i1:W1.cell? ⟨w.heap.size,1,none⟩=some (.int .i64 i.a):=cell_of hI rfl
 have i2:W1.cell? ⟨w.heap.size,2,none⟩=some (.int .i64 i.b):=cell_of hI rfl
 have hlA:=lt_of_block F.box
 have hlI:=lt_of_block hI
 clear b1 F1 hI F hX
 rw [ho] at i0 hW1 ⊢
 clear ho
 go_enter Tryz.func76,Tryz.ntmps76
 go_wp2
 go_ret
 exact pt_new HX.out HB.out (by simp) rfl rfl
theorem pu_11 (F:FlAt B w A p f V fi at_ mo) (i:In3) (top low:Int) (hX:∀ j,X j→B≤j∧j<w.heap.size) (ho:i.o=11) {k:Nat} (ha:i.a=(k:Int)) (hk:k≤2000):Calls Tryz.prog 76 #[.pointer (some ⟨A,0,none⟩),.agg #[.int .i64 i.o,.int .i64 i.a,.int .i64 i.b],.int .i64 top,.int .i64 low] w (PtO X fi at_ (.ok [2+2*i.a]) w):=by
 obtain ⟨W1,hW1,b1,hI⟩:=bxi w i
 have F1:=F.below b1
 have HB:=hide b1
 have HF1:=hide F1
 have HX:=hide hX
 have i0:W1.cell? ⟨w.heap.size,0,none⟩=some (.int .i64 i.o):=cell_of hI rfl
 have i1:W1.cell? ⟨w.heap.size,1,none⟩=some (.int .i64 i.a):=cell_of hI rfl
 have i2:W1.cell? ⟨w.heap.size,2,none⟩=some (.int .i64 i.b):=cell_of hI rfl
 have hlA:=lt_of_block F.box
 have hlI:=lt_of_block hI
 clear b1 F1 hI F hX
 rw [ha] at i1 hW1 ⊢
 have b2:(k:Int)≤2000:=by omega
 have b3:(0:Int)≤(k:Int):=by omega
 rw [ho] at i0 hW1 ⊢
 clear ho
 go_enter Tryz.func76,Tryz.ntmps76
 go_wp2
 go_ret
 exact pt_new HX.out HB.out (by simp) rfl rfl
theorem pu_21 (F:FlAt B w A p f V fi at_ mo) (i:In3) (top low:Int) (hX:∀ j,X j→B≤j∧j<w.heap.size) (ho:i.o=21) {k:Nat} (ha:i.a=(k:Int)) (hk:k≤2000):Calls Tryz.prog 76 #[.pointer (some ⟨A,0,none⟩),.agg #[.int .i64 i.o,.int .i64 i.a,.int .i64 i.b],.int .i64 top,.int .i64 low] w (PtO X fi at_ (.ok [2+2*i.a]) w):=by
 obtain ⟨W1,hW1,b1,hI⟩:=bxi w i
 have F1:=F.below b1
 have HB:=hide b1
 have HF1:=hide F1
 have HX:=hide hX
 have i0:W1.cell? ⟨w.heap.size,0,none⟩=some (.int .i64 i.o):=cell_of hI rfl
 have i1:W1.cell? ⟨w.heap.size,1,none⟩=some (.int .i64 i.a):=cell_of hI rfl
 have i2:W1.cell? ⟨w.heap.size,2,none⟩=some (.int .i64 i.b):=cell_of hI rfl
 have hlA:=lt_of_block F.box
 have hlI:=lt_of_block hI
 clear b1 F1 hI F hX
 rw [ha] at i1 hW1 ⊢
 have b2:(k:Int)≤2000:=by omega
 have b3:(0:Int)≤(k:Int):=by omega
 rw [ho] at i0 hW1 ⊢
 clear ho
 go_enter Tryz.func76,Tryz.ntmps76
 go_wp2
 go_ret
 exact pt_new HX.out HB.out (by simp) rfl rfl
theorem pu_12 (F:FlAt B w A p f V fi at_ mo) (i:In3) (top low:Int) (hX:∀ j,X j→B≤j∧j<w.heap.size) (ho:i.o=12) {k:Nat} (ha:i.a=(k:Int)) (hk:k≤2000):Calls Tryz.prog 76 #[.pointer (some ⟨A,0,none⟩),.agg #[.int .i64 i.o,.int .i64 i.a,.int .i64 i.b],.int .i64 top,.int .i64 low] w (PtO X fi at_ (.ok [3+2*i.a]) w):=by
 obtain ⟨W1,hW1,b1,hI⟩:=bxi w i
 have F1:=F.below b1
 have HB:=hide b1
 have HF1:=hide F1
 have HX:=hide hX
 have i0:W1.cell? ⟨w.heap.size,0,none⟩=some (.int .i64 i.o):=cell_of hI rfl
 have i1:W1.cell? ⟨w.heap.size,1,none⟩=some (.int .i64 i.a):=cell_of hI rfl
 have i2:W1.cell? ⟨w.heap.size,2,none⟩=some (.int .i64 i.b):=cell_of hI rfl
 have hlA:=lt_of_block F.box
 have hlI:=lt_of_block hI
 clear b1 F1 hI F hX
 rw [ha] at i1 hW1 ⊢
 have b2:(k:Int)≤2000:=by omega
 have b3:(0:Int)≤(k:Int):=by omega
 rw [ho] at i0 hW1 ⊢
 clear ho
 go_enter Tryz.func76,Tryz.ntmps76
 go_wp2
 go_ret
 exact pt_new HX.out HB.out (by simp) rfl rfl
theorem pu_29 (F:FlAt B w A p f V fi at_ mo) (i:In3) (top low:Int) (hX:∀ j,X j→B≤j∧j<w.heap.size) (ho:i.o=29) {k:Nat} (ha:i.b=(k:Int)) (hk:k≤2000):Calls Tryz.prog 76 #[.pointer (some ⟨A,0,none⟩),.agg #[.int .i64 i.o,.int .i64 i.a,.int .i64 i.b],.int .i64 top,.int .i64 low] w (PtO X fi at_ (.ok [3+2*i.b]) w):=by
 obtain ⟨W1,hW1,b1,hI⟩:=bxi w i
 have F1:=F.below b1
 have HB:=hide b1
 have HF1:=hide F1
 have HX:=hide hX
 have i0:W1.cell? ⟨w.heap.size,0,none⟩=some (.int .i64 i.o):=cell_of hI rfl
 have i1:W1.cell? ⟨w.heap.size,1,none⟩=some (.int .i64 i.a):=cell_of hI rfl
 have i2:W1.cell? ⟨w.heap.size,2,none⟩=some (.int .i64 i.b):=cell_of hI rfl
 have hlA:=lt_of_block F.box
 have hlI:=lt_of_block hI
 clear b1 F1 hI F hX
 rw [ha] at i2 hW1 ⊢
 have b2:(k:Int)≤2000:=by omega
 have b3:(0:Int)≤(k:Int):=by omega
 rw [ho] at i0 hW1 ⊢
 clear ho
 go_enter Tryz.func76,Tryz.ntmps76
 go_wp2
 go_ret
 exact pt_new HX.out HB.out (by simp) rfl rfl
theorem pu_17 (F:FlAt B w A p f V fi at_ mo) (i:In3) (top low:Int) (hX:∀ j,X j→B≤j∧j<w.heap.size) (ho:i.o=17) (hlo:3≤low∧low≤4000000):Calls Tryz.prog 76 #[.pointer (some ⟨A,0,none⟩),.agg #[.int .i64 i.o,.int .i64 i.a,.int .i64 i.b],.int .i64 top,.int .i64 low] w (PtO X fi at_ (.ok [low - 1]) w):=by
 obtain ⟨W1,hW1,b1,hI⟩:=bxi w i
 have F1:=F.below b1
 have HB:=hide b1
 have HF1:=hide F1
 have HX:=hide hX
 have i0:W1.cell? ⟨w.heap.size,0,none⟩=some (.int .i64 i.o):=cell_of hI rfl
 have i1:W1.cell? ⟨w.heap.size,1,none⟩=some (.int .i64 i.a):=cell_of hI rfl
 have i2:W1.cell? ⟨w.heap.size,2,none⟩=some (.int .i64 i.b):=cell_of hI rfl
 have hlA:=lt_of_block F.box
 have hlI:=lt_of_block hI
 clear b1 F1 hI F hX
 obtain ⟨b4,b5⟩:=hlo
 rw [ho] at i0 hW1 ⊢
 clear ho
 go_enter Tryz.func76,Tryz.ntmps76
 go_wp2
 go_ret
 rw [show low - 1=low - 3+2 by omega]
 exact pt_new HX.out HB.out (by simp) rfl rfl
theorem pu_3 (F:FlAt B w A p f V fi at_ mo) (i:In3) (top low:Int) (hX:∀ j,X j→B≤j∧j<w.heap.size) (ho:i.o=3) {k:Nat} {x:Int} (ha:i.a=(k:Int)) (hx:f.lo[k]?=some x):Calls Tryz.prog 76 #[.pointer (some ⟨A,0,none⟩),.agg #[.int .i64 i.o,.int .i64 i.a,.int .i64 i.b],.int .i64 top,.int .i64 low] w (PtO X fi at_ (.ok [x]) w):=by
 obtain ⟨W1,hW1,b1,hI⟩:=bxi w i
 have F1:=F.below b1
 have HB:=hide b1
 have HF1:=hide F1
 have HX:=hide hX
 have i0:W1.cell? ⟨w.heap.size,0,none⟩=some (.int .i64 i.o):=cell_of hI rfl
 have i1:W1.cell? ⟨w.heap.size,1,none⟩=some (.int .i64 i.a):=cell_of hI rfl
 have i2:W1.cell? ⟨w.heap.size,2,none⟩=some (.int .i64 i.b):=cell_of hI rfl
 have hlA:=lt_of_block F.box
 have hlI:=lt_of_block hI
 clear b1 F1 hI F hX
 have cq:W1.cell? ⟨A,7,none⟩=some V.u1:=cell_of HF1.out.box rfl
 obtain ⟨ao,cap,hao,_,hel⟩:=HF1.out.lo
 rw [hao] at cq
 obtain ⟨g,q,rfl,hg,hc,_⟩:=ints_at hel hx
 have hgw:g<W1.heap.size:=Nat.lt_of_lt_of_le hg HF1.out.hB
 have hlt:k<f.lo.length:=get_lt hx
 have e1:decide (k<f.lo.length)=true:=by simpa using hlt
 rw [ha] at i1 hW1 ⊢
 clear hao hel hx ha
 generalize f.lo.length=ll at *
 rw [ho] at i0 hW1 ⊢
 clear ho
 go_enter Tryz.func76,Tryz.ntmps76
 go_wp2_with fail
 go_region
 all_goals go_wp2
 all_goals go_ret
 all_goals exact pt_drew (pt_new HX.out HB.out (by simp) rfl rfl)
theorem pu_13 (F:FlAt B w A p f V fi at_ mo) (i:In3) (top low:Int) (hX:∀ j,X j→B≤j∧j<w.heap.size) (ho:i.o=13) {k:Nat} {x:Int} (ha:i.a=(k:Int)) (hx:f.ar[k]?=some x) (hxr:0≤x∧x≤2000):Calls Tryz.prog 76 #[.pointer (some ⟨A,0,none⟩),.agg #[.int .i64 i.o,.int .i64 i.a,.int .i64 i.b],.int .i64 top,.int .i64 low] w (PtO X fi at_ (.ok [1048576+2+2*x]) w):=by
 obtain ⟨W1,hW1,b1,hI⟩:=bxi w i
 have F1:=F.below b1
 have HB:=hide b1
 have HF1:=hide F1
 have HX:=hide hX
 have i0:W1.cell? ⟨w.heap.size,0,none⟩=some (.int .i64 i.o):=cell_of hI rfl
 have i1:W1.cell? ⟨w.heap.size,1,none⟩=some (.int .i64 i.a):=cell_of hI rfl
 have i2:W1.cell? ⟨w.heap.size,2,none⟩=some (.int .i64 i.b):=cell_of hI rfl
 have hlA:=lt_of_block F.box
 have hlI:=lt_of_block hI
 clear b1 F1 hI F hX
 have cq:W1.cell? ⟨A,9,none⟩=some V.u3:=cell_of HF1.out.box rfl
 obtain ⟨ao,cap,hao,_,hel⟩:=HF1.out.ar
 rw [hao] at cq
 obtain ⟨g,q,rfl,hg,hc,_⟩:=ints_at hel hx
 have hgw:g<W1.heap.size:=Nat.lt_of_lt_of_le hg HF1.out.hB
 have hlt:k<f.ar.length:=get_lt hx
 have e1:decide (k<f.ar.length)=true:=by simpa using hlt
 rw [ha] at i1 hW1 ⊢
 obtain ⟨b4,b5⟩:=hxr
 have b6:IntKind.i64.wrap (2*x)=2*x:=by
  obtain ⟨y,rfl⟩ : ∃ y:Nat,x=(y:Int):=⟨x.toNat,by omega⟩
  rw [show (2:Int)*(y:Int)=((2*y:Nat):Int) by omega]
  exact wrap_nat (by omega)
 have b7:IntKind.i64.wrap (1048578+2*x)=1048578+2*x:=by
  obtain ⟨y,rfl⟩ : ∃ y:Nat,x=(y:Int):=⟨x.toNat,by omega⟩
  rw [show (1048578:Int)+2*(y:Int)=((1048578+2*y:Nat):Int) by omega]
  exact wrap_nat (by omega)
 rw [show (1048576:Int)+2+2*x=1048578+2*x by omega]
 clear hao hel hx ha
 generalize f.ar.length=ll at *
 rw [ho] at i0 hW1 ⊢
 clear ho
 go_enter Tryz.func76,Tryz.ntmps76
 go_wp2_with fail
 go_region
 all_goals go_wp2
 all_goals go_ret
 all_goals exact pt_drew (pt_new HX.out HB.out (by simp) rfl rfl)
theorem pu_rest (F:FlAt B w A p f V fi at_ mo) (i:In3) (top low:Int) (hX:∀ j,X j→B≤j∧j<w.heap.size) (ho:i.o≠1∧i.o≠7∧i.o≠8∧i.o≠18∧i.o≠20∧i.o≠2∧i.o≠3∧i.o≠6∧i.o≠11∧i.o≠21∧i.o≠12∧i.o≠13∧i.o≠14∧i.o≠15∧i.o≠16∧i.o≠17∧i.o≠19∧i.o≠22∧i.o≠23∧i.o≠29):Calls Tryz.prog 76 #[.pointer (some ⟨A,0,none⟩),.agg #[.int .i64 i.o,.int .i64 i.a,.int .i64 i.b],.int .i64 top,.int .i64 low] w (PtO X fi at_ (.ok []) w):=by
 obtain ⟨W1,hW1,b1,hI⟩:=bxi w i
 have F1:=F.below b1
 have HB:=hide b1
 have HF1:=hide F1
 have HX:=hide hX
 have i0:W1.cell? ⟨w.heap.size,0,none⟩=some (.int .i64 i.o):=cell_of hI rfl
 have i1:W1.cell? ⟨w.heap.size,1,none⟩=some (.int .i64 i.a):=cell_of hI rfl
 have i2:W1.cell? ⟨w.heap.size,2,none⟩=some (.int .i64 i.b):=cell_of hI rfl
 have hlA:=lt_of_block F.box
 have hlI:=lt_of_block hI
 clear b1 F1 hI F hX
 have q1:(i.o == 1)=false:=by simp;omega
 have q7:(i.o == 7)=false:=by simp;omega
 have q8:(i.o == 8)=false:=by simp;omega
 have q18:(i.o == 18)=false:=by simp;omega
 have q20:(i.o == 20)=false:=by simp;omega
 have q2:(i.o == 2)=false:=by simp;omega
 have q3:(i.o == 3)=false:=by simp;omega
 have q6:(i.o == 6)=false:=by simp;omega
 have q11:(i.o == 11)=false:=by simp;omega
 have q21:(i.o == 21)=false:=by simp;omega
 have q12:(i.o == 12)=false:=by simp;omega
 have q13:(i.o == 13)=false:=by simp;omega
 have q14:(i.o == 14)=false:=by simp;omega
 have q15:(i.o == 15)=false:=by simp;omega
 have q16:(i.o == 16)=false:=by simp;omega
 have q17:(i.o == 17)=false:=by simp;omega
 have q19:(i.o == 19)=false:=by simp;omega
 have q22:(i.o == 22)=false:=by simp;omega
 have q23:(i.o == 23)=false:=by simp;omega
 have q29:(i.o == 29)=false:=by simp;omega
 clear ho
 go_enter Tryz.func76,Tryz.ntmps76
 go_wp2
 go_ret
 exact ⟨⟨_,rfl,isAt_none⟩,HB.out⟩
end
end Go.Proofs.YtkdojpnihinpbaaGreatDoor
