/- The document's Same, Of; the law MapsOf. -/
import Derived.Test.YtkdojpnihinpbaaGreatDoorMpRJo
import Derived.Test.YtkdojpnihinpbaaGreatDoorCdGsJo
import Derived.Test.YtkdojpnihinpbaaGreatDoorMpAJo
import Derived.Test.YtkdojpnihinpbaaGreatDoorVfTkJo
namespace Go.Proofs.YtkdojpnihinpbaaGreatDoor
open Go.RowKit
section
variable {w:World} {lo:List Int} {ms:List (Nat × List Int)}
set_option maxRecDepth 100000 in
set_option maxHeartbeats 2000000 in
theorem sameM_any {v u:Value} (A:MsAt w lo v ms) (C:MsAt w lo u ms) (hl:ms.length≤65536) (hlo:lo.length≤300000000) (hss:∀ m∈ms,m.2.length≤300000000):Calls Tryz.prog 7 #[v,u] w fun e W=>e=.returned (.bool true)∧Below w.heap.size w W:=by
 have HA:=hide A
 have HC:=hide C
 obtain ⟨aa,ca,rfl,_⟩:=A
 obtain ⟨ac,cc,rfl,_⟩:=C
 have HSS:=hide hss
 obtain ⟨n,hn⟩ : ∃ n,ms.length=n:=⟨_,rfl⟩
 have HN:=hide hn
 rw [hn] at HA HC hl ⊢
 clear hn hss
 have q0:((n:Int) != (n:Int))=false:=by simp
 go_enter Tryz.func7,Tryz.ntmps7
 go_wp2
 go_loopw [5] (fun a wr=>SmL n w a wr) (fun a _=>n - (intOf a).toNat)
 case atStart=>exact ⟨0,rfl,Nat.zero_le _,Below.refl _ _⟩
 case round =>
  obtain ⟨j,rfl,hj,hb⟩:=hrel
  have HB:=hide hb
  clear hb
  by_cases hlt:j<n
  · obtain ⟨⟨x,s⟩,hxs⟩ : ∃ m,ms[j]?=some m:=⟨ms[j]'(by rw [HN.out];exact hlt),by simp⟩
    have hsl:s.length≤300000000:=HSS.out _ (List.mem_of_getElem? hxs)
    obtain ⟨_,_,hA1,hA2⟩:=HA.out.below HB.out
    injection hA1 with i1 i2 i3;subst i1;subst i3;clear i2
    obtain ⟨ga,oa,u1,u2,rfl,hga,a0,a1,a2,hu1,hu2⟩:=hA2 j _ hxs
    obtain ⟨_,_,hC1,hC2⟩:=HC.out.below HB.out
    injection hC1 with i1 i2 i3;subst i1;subst i3;clear i2
    obtain ⟨gb,ob,w1,w2,rfl,hgb,c0,c1,c2,hw1,hw2⟩:=hC2 j _ hxs
    obtain ⟨y1,z1,rfl⟩:=hu1.form
    obtain ⟨y2,z2,rfl⟩:=hu2.form
    obtain ⟨t1,r1,rfl⟩:=hw1.form
    obtain ⟨t2,r2,rfl⟩:=hw2.form
    rw [nzs_len] at hu1 hu2 hw1 hw2 a1 a2 c1 c2
    have HS1:=hide (show ∀ W:World,Below wr.heap.size wr W→Calls Tryz.prog 17 #[.slice y1 lo.length z1,.slice t1 lo.length r1] W fun e W'=>e=.returned (.bool true)∧Below W.heap.size W W' from fun W h=>by
     have h1:=sameBits_any (hu1.below h) (hw1.below h) (by rw [nzs_len];exact hlo)
     simpa using h1)
    have HS2:=hide (show ∀ W:World,Below wr.heap.size wr W→Calls Tryz.prog 17 #[.slice y2 s.length z2,.slice t2 s.length r2] W fun e W'=>e=.returned (.bool true)∧Below W.heap.size W W' from fun W h=>by
     have h1:=sameBits_any (hu2.below h) (hw2.below h) (by rw [nzs_len];exact hsl)
     simpa using h1)
    have HCL:=hide (show ∀ W:World,Below wr.heap.size wr W→(fun W=>W.cell? ⟨ga,oa+j*3,none⟩=some (.int .i64 (x:Int))∧W.cell? ⟨ga,oa+j*3+1,none⟩=some (.slice y1 lo.length z1)∧W.cell? ⟨ga,oa+j*3+2,none⟩=some (.slice y2 s.length z2)∧W.cell? ⟨gb,ob+j*3,none⟩=some (.int .i64 (x:Int))∧W.cell? ⟨gb,ob+j*3+1,none⟩=some (.slice t1 lo.length r1)∧W.cell? ⟨gb,ob+j*3+2,none⟩=some (.slice t2 s.length r2)) W from fun W h=>⟨(h.cell (p:=⟨ga,oa+j*3,none⟩) hga).trans a0,(h.cell (p:=⟨ga,oa+j*3+1,none⟩) hga).trans a1,(h.cell (p:=⟨ga,oa+j*3+2,none⟩) hga).trans a2,(h.cell (p:=⟨gb,ob+j*3,none⟩) hgb).trans c0,(h.cell (p:=⟨gb,ob+j*3+1,none⟩) hgb).trans c1,(h.cell (p:=⟨gb,ob+j*3+2,none⟩) hgb).trans c2⟩)
    have d1:decide (j<n)=true:=by simpa using hlt
    have d2:(j:Int)≤65536:=by omega
    clear hxs hA2 hC2 a0 a1 a2 c0 c1 c2 hu1 hu2 hw1 hw2 hsl
    go_upto_region 6 with (fail)
    refine wp_region_held_drew (S:=(fun W=>W.cell? ⟨ga,oa+j*3,none⟩=some (.int .i64 (x:Int))∧W.cell? ⟨ga,oa+j*3+1,none⟩=some (.slice y1 lo.length z1)∧W.cell? ⟨ga,oa+j*3+2,none⟩=some (.slice y2 s.length z2)∧W.cell? ⟨gb,ob+j*3,none⟩=some (.int .i64 (x:Int))∧W.cell? ⟨gb,ob+j*3+1,none⟩=some (.slice t1 lo.length r1)∧W.cell? ⟨gb,ob+j*3+2,none⟩=some (.slice t2 s.length r2))) (by kernel_rfl) (HCL.out _ (below_drew (Below.refl _ _))) (fun hHeld1=>?_)
    refine tk 0 ?_;simp only [sp]
    refine tk 1 ?_;simp only [sp]
    refine tk 2 ?_;simp only [sp]
    refine tk 3 ?_;simp only [sp]
    refine tk 4 ?_;simp only [sp]
    refine tk 5 ?_;simp only [sp]
    refine tk 6 ?_;simp only [sp]
    refine tk 7 ?_;simp only [sp]
    refine tk 8 ?_;simp only [sp]
    refine tk 9 ?_;simp only [sp]
    refine tk 10 ?_;simp only [sp]
    refine tk 11 ?_;simp only [sp]
    refine tk 12 ?_;simp only [sp]
    refine tk 13 ?_;simp only [sp]
    refine tk 14 ?_;simp only [sp]
    refine tk 15 ?_;simp only [sp]
    refine tk 16 ?_;simp only [sp]
    refine tk 17 ?_;simp only [sp]
    refine tk 18 ?_;simp only [sp]
    refine tk 19 ?_;simp only [sp]
    refine tk 20 ?_;simp only [sp]
    refine tk 21 ?_;simp only [sp]
    refine rd 22 (fun K hK=>?_)
    go_simp
    go_at_call 17
    refine (HS1.out _ (below_drew (Below.refl _ _))).mono ?_
    rintro e w5 ⟨rfl,hb5⟩
    have HB5:=hide (show Below wr.heap.size wr w5 from bel_tr (below_drew (Below.refl _ _)) hb5)
    clear hb5
    go_wp2_with fail
    refine hK.out _ _ (HCL.out w5 HB5.out) (fun hHeld24=>?_)
    clear hK K
    try simp only [sp]
    refine tk 23 ?_;simp only [sp]
    refine tk 24 ?_;simp only [sp]
    refine tk 25 ?_;simp only [sp]
    refine tk 26 ?_;simp only [sp]
    refine tk 27 ?_;simp only [sp]
    refine tk 28 ?_;simp only [sp]
    refine tk 29 ?_;simp only [sp]
    refine tk 30 ?_;simp only [sp]
    refine tk 31 ?_;simp only [sp]
    refine tk 32 ?_;simp only [sp]
    refine tk 33 ?_;simp only [sp]
    refine tk 34 ?_;simp only [sp]
    refine tk 35 ?_;simp only [sp]
    refine rd 36 (fun K hK=>?_)
    go_simp
    go_at_call 17
    refine (HS2.out _ HB5.out).mono ?_
    rintro e w6 ⟨rfl,hb6⟩
    have HB6:=hide (show Below wr.heap.size wr w6 from bel_tr HB5.out hb6)
    clear hb6
    go_wp2_with fail
    refine hK.out _ _ (HCL.out w6 HB6.out) (fun hHeld38=>?_)
    clear hK K
    try simp only [sp]
    refine tk 37 ?_;simp only [sp]
    refine tk 38 ?_;simp only [sp]
    refine wpAnyH_done (by kernel_rfl) ?_ _
    have HR:=hide (show SmL n w (.int .i64 ((j+1:Nat):Int)) w6 from ⟨j+1,rfl,hlt,bel_tr HB.out HB6.out⟩)
    go_wp2
    go_roundw
    case rel=>exact HR.out
    case measure=>first | exact meas_int hlt (by omega) | (rw [intOf_int,intOf_int];omega)
  · obtain rfl:n=j:=by omega
    have d1:decide (n<n)=false:=by simp
    go_wp2
    go_ret
    exact ⟨rfl,HB.out⟩
end
def RoR (f:Fd) (M:List (Option (List Int))) (n:Nat) (wB:World) (a i:Value) (W:World):Prop:=∃ (x q:Nat) (ao:Option Addr) (cap:Nat) (css:List (List Value)),i=.int .i64 (x:Int)∧x≤n∧a=.slice ao q cap∧q=(selP f M x).length∧OwN wB.heap.size W f.lo a (selP f M x) css∧Below wB.heap.size wB W
section
variable {B:Nat} {w:World} {p:Pg}
set_option maxRecDepth 100000 in
set_option maxHeartbeats 4000000 in
theorem rof_any {v1 v2 v3 v4:Value} (P:PgAt B w v1 v2 v3 v4 p) (hB:B≤w.heap.size) (m:Int):Calls Tryz.prog 5 #[.agg #[v1,v2,v3,v4],.int .i64 m] w (OmO p m w):=by
 obtain ⟨a1,d1,hv1⟩:=sl_form P.ty
 obtain ⟨a2,d2,hv2⟩:=sl_form P.fu
 obtain ⟨a3,d3,hv3⟩:=sl_form P.ta
 obtain ⟨a4,d4,hv4⟩:=sl_form P.st
 subst hv1 hv2 hv3 hv4
 obtain ⟨W1,hW1⟩ : ∃ W1,w.alloc (.cells #[.slice a1 p.ty.length d1,.slice a2 p.fu.length d2,.slice a3 p.ta.length d3,.slice a4 p.st.length d4] 27)=W1:=⟨_,rfl⟩
 have b1:Below w.heap.size w W1:=by rw [← hW1];exact (Below.refl _ _).alloc (Nat.le_refl _) _
 have e1:W1.heap[w.heap.size]?=some (.cells #[.slice a1 p.ty.length d1,.slice a2 p.fu.length d2,.slice a3 p.ta.length d3,.slice a4 p.st.length d4] 27 (0,0)):=by rw [← hW1];exact heap_new _ _ rfl
 have HKP:=hide (show ∀ W:World,Below W1.heap.size W1 W→PgAt B W (.slice a1 p.ty.length d1) (.slice a2 p.fu.length d2) (.slice a3 p.ta.length d3) (.slice a4 p.st.length d4) p∧B≤W.heap.size from fun W h=>⟨P.keep (Nat.le_refl _) (fun j hj=>(bel_tr b1 h).block j (Nat.lt_of_lt_of_le hj hB)),Nat.le_trans hB (bel_tr b1 h).size⟩)
 have HBX:=hide (show ∀ W:World,Below W1.heap.size W1 W→(W.cell? ⟨w.heap.size,0,none⟩=some (.slice a1 p.ty.length d1)∧W.cell? ⟨w.heap.size,1,none⟩=some (.slice a2 p.fu.length d2)∧W.cell? ⟨w.heap.size,2,none⟩=some (.slice a3 p.ta.length d3)∧W.cell? ⟨w.heap.size,3,none⟩=some (.slice a4 p.st.length d4))∧w.heap.size<W.heap.size from fun W h=>by
  have h1:=(h.block _ (lt_of_block e1)).trans e1
  exact ⟨⟨cell_of h1 rfl,cell_of h1 rfl,cell_of h1 rfl,cell_of h1 rfl⟩,lt_of_block h1⟩)
 have HRC:=hide (rcheck_any (HKP.out W1 (Below.refl _ _)).1 (HKP.out W1 (Below.refl _ _)).2)
 have HB1:=hide (show ∀ W:World,Below W1.heap.size W1 W→Below w.heap.size w W from fun W h=>bel_tr b1 h)
 have HOK:=hide (show (checkP p).2.2=0→Hok p∧∀ f∈p.fu,∃ F,followP p f=.ok F from fun h=>by
  obtain ⟨_,o1,o2,o3⟩:=check_ok h
  exact ⟨hok_of o1 o2,o3⟩)
 obtain ⟨⟨k0,k1,k2,k3⟩,k4⟩:=HBX.out W1 (Below.refl _ _)
 clear P hB b1 e1
 unfold CkO at HRC
 obtain ⟨q1,hq1⟩ : ∃ c,(checkP p).1=c:=⟨_,rfl⟩
 obtain ⟨q2,hq2⟩ : ∃ c,(checkP p).2.1=c:=⟨_,rfl⟩
 obtain ⟨ce,hce⟩ : ∃ c,(checkP p).2.2=c:=⟨_,rfl⟩
 have HCE:=hide hce
 rw [hq1,hq2,hce] at HRC
 rw [hce] at HOK
 clear hq1 hq2 hce
 go_enter Tryz.func5,Tryz.ntmps5
 go_wp2_with fail
 refine HRC.out.mono ?_
 rintro e w2 ⟨rfl,hb2⟩
 have HB2:=hide (show Below W1.heap.size W1 w2 from hb2)
 clear hb2 k0 k1 k2 k3 k4 HRC
 obtain ⟨⟨k0,k1,k2,k3⟩,k4⟩:=HBX.out w2 HB2.out
 by_cases hc:ce=0
 · have HCZ:=hide (show (checkP p).2.2=0 from by rw [HCE.out];exact hc)
   obtain ⟨hH,hFo⟩:=HOK.out hc
   subst hc
   have HH:=hide hH
   have HFo:=hide hFo
   have hn3:(p.fu.length:Int)≤4096:=by have:=hH.nf;omega
   clear hH hFo HOK
   by_cases hi:inB m p.fu.length=true
   · obtain ⟨k,rfl,hk⟩:=in_nat hi
     obtain ⟨f,hf⟩ : ∃ f,p.fu[k]?=some f:=⟨p.fu[k],by simp⟩
     have HF:=hide hf
     have HLK:=hide (rlook_any (HKP.out w2 HB2.out).1 (HKP.out w2 HB2.out).2 HH.out hf)
     have z0:decide (k<p.fu.length)=true:=by simpa using hk
     have z1:decide ((p.fu.length:Int)≤(k:Int))=false:=by simp;omega
     have z2:decide ((k:Int)<0)=false:=by simp
     clear hi hf
     go_wp2_with fail
     refine HLK.out.mono ?_
     rintro e w3 ⟨hb3,(⟨x,c,cb,sb,L,m',hfo,rfl⟩ | ⟨F,cb,sb,hfo,rfl,hla,hcb,scs,X,hsb,hsl,hst⟩)⟩
     · exfalso
       obtain ⟨F,hF⟩:=HFo.out f (List.mem_of_getElem? HF.out)
       rw [hF] at hfo
       cases hfo
     · have HB3:=hide (bel_tr HB2.out hb3)
       have HHF:=hide (HH.out.fu f (List.mem_of_getElem? HF.out))
       have HI:=hide (follow_inv HH.out HHF.out hfo)
       obtain ⟨n,hn⟩ : ∃ n,f.co.length=n:=⟨_,rfl⟩
       have HN:=hide hn
       rw [hn] at hla hsl ⊢
       obtain ⟨wB,hwB⟩ : ∃ W,w3.alloc (.cells #[.slice (some ⟨cb,0,none⟩) n n,.slice (some ⟨sb,0,none⟩) n n,.int .i64 (F.mo:Int)] 55)=W:=⟨_,rfl⟩
       have bB:Below w3.heap.size w3 wB:=by rw [← hwB];exact (Below.refl _ _).alloc (Nat.le_refl _) _
       have hlb:wB.heap[w3.heap.size]?=some (.cells #[.slice (some ⟨cb,0,none⟩) n n,.slice (some ⟨sb,0,none⟩) n n,.int .i64 (F.mo:Int)] 55 (0,0)):=by rw [← hwB];exact heap_new _ _ rfl
       obtain ⟨W5,hW5⟩ : ∃ W5,wB.alloc (.cells #[] 51)=W5:=⟨_,rfl⟩
       have b5:Below wB.heap.size wB W5:=by rw [← hW5];exact (Below.refl _ _).alloc (Nat.le_refl _) _
       have HBW:=hide (show ∀ W:World,Below wB.heap.size wB W→Below W1.heap.size W1 W from fun W h=>bel_tr (bel_tr HB3.out bB) h)
       have HS0:=hide (show RoR f F.ah n wB (.slice (some ⟨wB.heap.size,0,none⟩) 0 0) (.int .i64 0) W5 from ⟨0,0,_,_,[],rfl,Nat.zero_le _,rfl,rfl,⟨⟨rfl,.inr ⟨wB.heap.size,0,#[],rfl,Nat.le_refl _,by rw [← hW5];exact heap_new _ _ rfl,Nat.le_refl _,by unfold maxLen;omega,rfl,rfl⟩⟩,rfl,fun j m h=>by simp [selP] at h⟩,b5⟩)
       obtain ⟨g,o,c,n',x1,x2,x3,x4,hv,hn',hlt,hg,⟨_,y1,_,_,y4⟩,r1,_,_,r4⟩:=fd_at (HKP.out w2 HB2.out).1.fu HF.out
       cases hv
       obtain ⟨b1,e1,rfl⟩:=sl_form r1
       obtain ⟨b4,e4,rfl⟩:=sl_form r4
       have hgw:g<w2.heap.size:=Nat.lt_of_lt_of_le hg (HKP.out w2 HB2.out).2
       have HFD:=hide (show ∀ W:World,Below wB.heap.size wB W→W.cell? ⟨w.heap.size,1,none⟩=some (.slice (some ⟨g,o,none⟩) p.fu.length d2)∧W.cell? ⟨g,o+k*5+1,none⟩=some (.slice b1 f.lo.length e1)∧W.cell? ⟨g,o+k*5+4,none⟩=some (.slice b4 n e4)∧w.heap.size<W.heap.size∧g<W.heap.size from fun W h=>by
        have h2:Below w2.heap.size w2 W:=bel_tr (bel_tr hb3 bB) h
        exact ⟨(HBX.out W (HBW.out W h)).1.2.1,(h2.cell (p:=⟨g,o+k*5+1,none⟩) hgw).trans y1,by rw [← HN.out];exact (h2.cell (p:=⟨g,o+k*5+4,none⟩) hgw).trans y4,(HBX.out W (HBW.out W h)).2,Nat.lt_of_lt_of_le hgw h2.size⟩)
       have HR4:=hide (show ∀ W:World,Below wB.heap.size wB W→SlAt 3 InsP B W (.slice b4 f.co.length e4) f.co∧B≤W.heap.size∧IsAt (fun _=>False) W (.slice b1 f.lo.length e1) f.lo from fun W h=>by
        have h2:Below w2.heap.size w2 W:=bel_tr (bel_tr hb3 bB) h
        have hk:∀ j,j<B→W.heap[j]?=w2.heap[j]?:=fun j hj=>h2.block j (Nat.lt_of_lt_of_le hj (HKP.out w2 HB2.out).2)
        have hbW:=Nat.le_trans (HKP.out w2 HB2.out).2 h2.size
        exact ⟨ins_keep (Nat.le_refl _) hk r4,hbW,is_of_sl (ints_keep (Nat.le_refl _) hk r1) hbW (fun _ _ h=>h)⟩)
       have HLB:=hide (show ∀ W:World,Below wB.heap.size wB W→W.cell? ⟨w3.heap.size,0,none⟩=some (.slice (some ⟨cb,0,none⟩) n n)∧W.cell? ⟨w3.heap.size,1,none⟩=some (.slice (some ⟨sb,0,none⟩) n n)∧w3.heap.size<W.heap.size from fun W h=>by
        have h1:=(h.block _ (lt_of_block hlb)).trans hlb
        exact ⟨cell_of h1 rfl,cell_of h1 rfl,lt_of_block h1⟩)
       have HS4:=hide (show ∀ (x:Nat) (s:List Int),F.ah[x]?=some (some s)→∃ a c,∀ W:World,Below wB.heap.size wB W→W.cell? ⟨sb,x,none⟩=some (.slice a s.length c)∧sb<W.heap.size∧IsAt (fun _=>False) W (.slice a s.length c) s from fun x s hs=>by
        obtain ⟨c,hc,hk⟩:=hst x _ hs
        have hl:=lt_of_block hsb
        have hk2:=hk.1
        obtain ⟨ao,cap,rfl,_⟩:=hk2
        refine ⟨ao,cap,fun W h=>?_⟩
        have h3:Below w3.heap.size w3 W:=bel_tr bB h
        exact ⟨(h3.cell (p:=⟨sb,x,none⟩) hl).trans (cell_of hsb (by rw [List.getElem?_toArray];exact hc)),Nat.lt_of_lt_of_le hl h3.size,(hk.1.keep (Kp.of_below h3)).sub (fun _ _ h=>h.elim)⟩)
       have HC4:=hide (show ∀ W:World,Below wB.heap.size wB W→∀ (x:Nat) (o:Option (List Int)),F.ah[x]?=some o→W.cell? ⟨cb,x,none⟩=some (.bool o.isSome)∧cb<W.heap.size from fun W h x o ho=>by
        have h3:Below w3.heap.size w3 W:=bel_tr bB h
        have hl:=lt_of_block hcb
        exact ⟨(h3.cell (p:=⟨cb,x,none⟩) hl).trans (cell_of hcb (by rw [List.getElem?_toArray];unfold cvs;rw [List.getElem?_map,ho];rfl)),Nat.lt_of_lt_of_le hl h3.size⟩)
       have HLA:=hide hla
       have HNC:=hide (show n≤65536 from hn ▸ HHF.out.nc)
       have HFIN:=hide (show ∀ (W:World) (v:Value),Below wB.heap.size wB W→MsAt W f.lo v (selP f F.ah n)→OmO p (k:Int) w (.returned (.tuple #[v,.int .i64 0])) W from fun W v h hv=>⟨HB1.out W (HBW.out W h),.inr (.inr ⟨k,f,F,v,HCZ.out,rfl,HF.out,hfo,rfl,by rw [HN.out];exact hv⟩)⟩)
       clear hb3 hcb hsb hsl hst hla hfo hn hg hn' y1 y4 r1 r4 bB hlb b5 k0 k1 k2 k3 k4 HLK hgw
       go_wp2
       go_loopw [12,13] (fun a i wr=>RoR f F.ah n wB a i wr) (fun _ i _=>n - (intOf i).toNat)
       case atStart=>exact HS0.out
       case round =>
        obtain ⟨x,q,ao,cap,css,rfl,hx,rfl,hq,hO,hb⟩:=hrel
        have HB:=hide hb
        have HO:=hide hO
        have HQ:=hide hq
        have hql:q≤65536:=by rw [hq];have:=selP_len (f:=f) (M:=F.ah) x;have:=HNC.out;omega
        clear hb hO hq
        obtain ⟨m1,m2,m3,m4,m5⟩:=HFD.out wr HB.out
        by_cases hxl:x<n
        · have hxc:x<f.co.length:=by rw [HN.out];exact hxl
          obtain ⟨ii,hii⟩ : ∃ i,f.co[x]?=some i:=⟨f.co[x],by simp⟩
          have hco:coAt f x=ii:=by unfold coAt;rw [hii];rfl
          obtain ⟨hr4,hbw,_⟩:=HR4.out wr HB.out
          obtain ⟨gc,oc,ec,hv4,hgc,i0,_,_⟩:=ins_atM hr4 hii
          cases hv4
          have hgcw:gc<wr.heap.size:=Nat.lt_of_lt_of_le hgc hbw
          obtain ⟨l0,l1,l2⟩:=HLB.out wr HB.out
          obtain ⟨oo,ho⟩ : ∃ oo,F.ah[x]?=some oo:=⟨F.ah[x]'(by rw [HLA.out];exact hxl),by simp⟩
          obtain ⟨hcm,hcl⟩:=HC4.out wr HB.out x oo ho
          have z1:decide (x<n)=true:=by simpa using hxl
          have z3:(x:Int)≤65536:=by have:=HNC.out;omega
          have SKIP:=hide (show F.ah[x]?=some none∨safeB (coAt f x).o=false→RoR f F.ah n wB (.slice ao q cap) (.int .i64 ((x+1:Nat):Int)) wr from fun h=>⟨x+1,q,ao,cap,css,rfl,hxl,rfl,by rw [selP_none h];exact HQ.out,by rw [selP_none h];exact HO.out,HB.out⟩)
          have HOO:=hide ho
          have HII:=hide hco
          clear ho hii hco hr4 hgc hbw
          go_upto_region 12 with (fail)
          go_cut [90] from 62 to 90 (fun v wq=>v=.bool (oo.isSome && safeB ii.o)∧wq=wr)
          case first =>
           cases oo with
           | none =>
            have hcm2:wr.cell? ⟨cb,x,none⟩=some (.bool false):=hcm
            clear hcm
            go_wp2_with fail
            go_meet
            exact ⟨rfl,rfl⟩
           | some s =>
           have hcm2:wr.cell? ⟨cb,x,none⟩=some (.bool true):=hcm
           clear hcm
           by_cases h11:ii.o=11
           · have q11:(ii.o == 11)=true:=by simpa using h11
             have HE:=hide (show safeB ii.o=true by simp [safeB,h11])
             clear h11
             go_wp2_with fail
             go_meet
             exact ⟨by rw [HE.out];rfl,rfl⟩
           have q11:(ii.o == 11)=false:=by simpa using h11
           by_cases h12:ii.o=12
           · have q12:(ii.o == 12)=true:=by simpa using h12
             have HE:=hide (show safeB ii.o=true by simp [safeB,h12])
             clear h12
             go_wp2_with fail
             go_meet
             exact ⟨by rw [HE.out];rfl,rfl⟩
           have q12:(ii.o == 12)=false:=by simpa using h12
           by_cases h19:ii.o=19
           · have q19:(ii.o == 19)=true:=by simpa using h19
             have HE:=hide (show safeB ii.o=true by simp [safeB,h19])
             clear h19
             go_wp2_with fail
             go_meet
             exact ⟨by rw [HE.out];rfl,rfl⟩
           have q19:(ii.o == 19)=false:=by simpa using h19
           by_cases h29:ii.o=29
           · have q29:(ii.o == 29)=true:=by simpa using h29
             have HE:=hide (show safeB ii.o=true by simp [safeB,h29])
             clear h29
             go_wp2_with fail
             go_meet
             exact ⟨by rw [HE.out];rfl,rfl⟩
           have q29:(ii.o == 29)=false:=by simpa using h29
           by_cases h22:ii.o=22
           · have q22:(ii.o == 22)=true:=by simpa using h22
             have HE:=hide (show safeB ii.o=true by simp [safeB,h22])
             clear h22
             go_wp2_with fail
             go_meet
             exact ⟨by rw [HE.out];rfl,rfl⟩
           have q22:(ii.o == 22)=false:=by simpa using h22
           by_cases h23:ii.o=23
           · have q23:(ii.o == 23)=true:=by simpa using h23
             have HE:=hide (show safeB ii.o=true by simp [safeB,h23])
             clear h23
             go_wp2_with fail
             go_meet
             exact ⟨by rw [HE.out];rfl,rfl⟩
           have q23:(ii.o == 23)=false:=by simpa using h23
           have HE:=hide (show safeB ii.o=false by simp [safeB,h11,h12,h19,h29,h22,h23])
           clear h11 h12 h19 h29 h22 h23
           go_wp2_with fail
           go_meet
           exact ⟨by rw [HE.out];rfl,rfl⟩
          case rest =>
           obtain ⟨hv13,hwc⟩:=hcut
           subst hv13
           obtain rfl:wr=wc:=hwc.symm
           cases oo with
           | none =>
            have HR:=hide (SKIP.out (.inl HOO.out))
            clear SKIP hcm
            rw [show ((none:Option (List Int)).isSome && safeB ii.o)=false from rfl]
            go_wp2
            go_roundw
            case rel=>exact HR.out
            case measure=>first | exact meas_int hxl (by omega) | (rw [intOf_int,intOf_int];omega)
           | some s =>
            rw [show ((some s).isSome && safeB ii.o)=safeB ii.o from rfl]
            clear hcm
            by_cases hs:safeB ii.o=true
            · rw [hs]
              have HSEL:=hide (selP_some HOO.out (show safeB (coAt f x).o=true by rw [HII.out];exact hs))
              obtain ⟨y3,z3,hS3⟩:=HS4.out x s HOO.out
              have HS3:=hide hS3
              obtain ⟨c3,hsbl,hI3⟩:=hS3 wr HB.out
              have hsl3:s.length≤300000000:=by
               have:=(HI.out.st x s HOO.out).2
               have:=HHF.out.nc
               omega
              have hlo3:f.lo.length≤300000000:=by have:=HHF.out.nl;omega
              have HBS:=hide (show ∀ W:World,Below wr.heap.size wr W→Calls Tryz.prog 15 #[.slice y3 s.length z3] W fun e W'=>∃ u,e=.returned u∧W'.ownsRow W.heap.size 4 1 u s.length (bvM (nzs s))∧Below W.heap.size W W' from fun W h=>bits_row (hI3.keep (Kp.of_below h)) hsl3)
              have HBL:=hide (show ∀ W:World,Below wr.heap.size wr W→Calls Tryz.prog 15 #[.slice b1 f.lo.length e1] W fun e W'=>∃ u,e=.returned u∧W'.ownsRow W.heap.size 4 1 u f.lo.length (bvM (nzs f.lo))∧Below W.heap.size W W' from fun W h=>bits_row ((HR4.out wr HB.out).2.2.keep (Kp.of_below h)) hlo3)
              have HCL:=hide (show ∀ W:World,Below wB.heap.size wB W→(fun W=>W.cell? ⟨w.heap.size,1,none⟩=some (.slice (some ⟨g,o,none⟩) p.fu.length d2)∧W.cell? ⟨g,o+k*5+1,none⟩=some (.slice b1 f.lo.length e1)∧W.cell? ⟨w3.heap.size,1,none⟩=some (.slice (some ⟨sb,0,none⟩) n n)∧W.cell? ⟨sb,x,none⟩=some (.slice y3 s.length z3)) W from fun W h=>by
               obtain ⟨n1,n2,_,_,_⟩:=HFD.out W h
               obtain ⟨_,n3,_⟩:=HLB.out W h
               exact ⟨n1,n2,n3,(HS3.out W h).1⟩)
              have z4:(q:Int)≤65536:=by omega
              clear SKIP hs c3 hI3 hS3 hsl3 hlo3 hwc
              go_upto_region 13 with (fail)
              refine wp_region_held_drew (S:=(fun W=>W.cell? ⟨w.heap.size,1,none⟩=some (.slice (some ⟨g,o,none⟩) p.fu.length d2)∧W.cell? ⟨g,o+k*5+1,none⟩=some (.slice b1 f.lo.length e1)∧W.cell? ⟨w3.heap.size,1,none⟩=some (.slice (some ⟨sb,0,none⟩) n n)∧W.cell? ⟨sb,x,none⟩=some (.slice y3 s.length z3))) (by kernel_rfl) (HCL.out _ (below_drew HB.out)) (fun hHeld41=>?_)
              refine tk 0 ?_;simp only [sp]
              refine tk 1 ?_;simp only [sp]
              refine tk 2 ?_;simp only [sp]
              refine tk 3 ?_;simp only [sp]
              refine tk 4 ?_;simp only [sp]
              refine tk 5 ?_;simp only [sp]
              refine tk 6 ?_;simp only [sp]
              refine tk 7 ?_;simp only [sp]
              refine tk 9 ?_;simp only [sp]
              refine tk 10 ?_;simp only [sp]
              refine tk 11 ?_;simp only [sp]
              refine tk 12 ?_;simp only [sp]
              refine tk 13 ?_;simp only [sp]
              refine rd 8 (fun K hK=>?_)
              go_simp
              go_at_call 15
              refine (HBL.out _ (below_drew (Below.refl _ _))).mono ?_
              rintro e w5 ⟨u5,rfl,ho5,hb5⟩
              have HB5:=hide (show Below wr.heap.size wr w5 from bel_tr (below_drew (Below.refl _ _)) hb5)
              have HO5:=hide ho5
              obtain ⟨p5,r5,hu5⟩:=(BsAt.own ho5 (by rw [nzs_len])).form
              rw [nzs_len] at hu5
              subst hu5
              clear hb5 ho5
              go_wp2_with fail
              refine hK.out _ _ (HCL.out w5 (bel_tr HB.out HB5.out)) (fun hHeld55=>?_)
              clear hK K
              try simp only [sp]
              refine rd 14 (fun K hK=>?_)
              go_simp
              go_at_call 15
              refine (HBS.out _ HB5.out).mono ?_
              rintro e w6 ⟨u6,rfl,ho6,hb6⟩
              have HB6:=hide (show Below wr.heap.size wr w6 from bel_tr HB5.out hb6)
              have HO6:=hide ho6
              have HO56:=hide (own_keepN HO5.out hb6)
              obtain ⟨p6,r6,hu6⟩:=(BsAt.own ho6 (by rw [nzs_len])).form
              rw [nzs_len] at hu6
              subst hu6
              clear hb6 ho6
              go_wp2_with fail
              refine hK.out _ _ (HCL.out w6 (bel_tr HB.out HB6.out)) (fun hHeld56=>?_)
              clear hK K
              try simp only [sp]
              refine tk 15 ?_;simp only [sp]
              obtain ⟨V1,hV1⟩ : ∃ V1,w6.alloc (.cells #[.int .i64 (x:Int),.slice p5 f.lo.length r5,.slice p6 s.length r6] 51)=V1:=⟨_,rfl⟩
              have b61:Below w6.heap.size w6 V1:=by rw [← hV1];exact (Below.refl _ _).alloc (Nat.le_refl _) _
              have hbV:Below wr.heap.size wr V1:=bel_tr HB6.out b61
              obtain ⟨g7,cap7,V3,hrun,O7,hb7⟩:=(HO.out.below hbV).push (b:=w6.heap.size) (x:=x) (s:=s) (Nat.le_trans HB.out.size hbV.size) (by have:=HQ.out;omega) (by rw [← hV1];exact heap_new _ _ rfl) (own_low (own_keepN HO56.out b61)) (own_low (own_keepN HO6.out b61))
              have HBV:=hide (show Below wB.heap.size wB V1 from bel_tr HB.out hbV)
              have HBZ:=hide (show Below wB.heap.size wB V3 from HBV.out.trans hb7)
              have HR:=hide (show RoR f F.ah n wB (.slice (some ⟨g7,0,none⟩) (q+1) cap7) (.int .i64 ((x+1:Nat):Int)) V3 from ⟨x+1,q+1,_,cap7,_,rfl,hxl,rfl,by rw [HSEL.out,List.length_append,List.length_singleton,HQ.out],by
               rw [HSEL.out,HQ.out]
               exact O7,HBZ.out⟩)
              rw [← HQ.out] at hrun
              clear b61 hbV O7 hb7
              refine rd 16 (fun K hK=>?_)
              go_simp
              go_wp2_with fail
              refine hK.out _ _ (HCL.out _ HBV.out) (fun hHeld58=>?_)
              clear hK K
              try simp only [sp]
              refine wpAnyH_ready (rs:=[17]) (by kernel_rfl) (by simp) ?_
              refine AllReadyH.cons (Go.Proofs.YtkdojpnihinpbaaGreatDoor.dr rfl) (fun K hK=>?_) AllReadyH.nil
              refine step_append_eq (by rfl) _ _ 28 28 (by rfl) (by rfl) (by rfl) hrun ?_
              refine hK.out _ _ (HCL.out _ HBZ.out) (fun hHeld59=>?_)
              clear hK K
              try simp only [sp]
              refine tk 18 ?_;simp only [sp]
              refine wpAnyH_done (by kernel_rfl) ?_ _
              go_wp2
              go_roundw
              case rel=>exact HR.out
              case measure=>first | exact meas_int hxl (by omega) | (rw [intOf_int,intOf_int];omega)
            · have hs2:safeB ii.o=false:=by simpa using hs
              have HR:=hide (SKIP.out (.inr (by rw [HII.out];exact hs2)))
              rw [hs2]
              clear SKIP hs hs2
              go_wp2
              go_roundw
              case rel=>exact HR.out
              case measure=>first | exact meas_int hxl (by omega) | (rw [intOf_int,intOf_int];omega)
        · obtain rfl:n=x:=by omega
          have z1:decide (n<n)=false:=by simp
          have HE:=hide (HFIN.out wr (.slice ao q cap) HB.out HO.out.lies)
          go_wp2
          go_ret2
          exact HE.out
   · have hi2:inB m p.fu.length=false:=by simpa using hi
     have HE:=hide (show OmO p m w (.returned (.tuple #[.slice none 0 0,.int .i64 6])) w2 from ⟨HB1.out w2 HB2.out,.inr (.inl ⟨HCZ.out,hi2,rfl⟩)⟩)
     have h3:m<0∨(p.fu.length:Int)≤m:=by
      have h:=of_decide_eq_false hi2
      omega
     clear hi hi2
     by_cases hm0:m<0
     · have d1:decide (m<0)=true:=by simpa using hm0
       clear h3
       go_wp2
       go_ret2
       exact HE.out
     · have d1:decide (m<0)=false:=by simpa using hm0
       have z2:decide ((p.fu.length:Int)≤m)=true:=by simp;omega
       clear h3
       go_wp2
       go_ret2
       exact HE.out
 · have q0:(ce != 0)=true:=by simpa using hc
   have HE:=hide (show OmO p m w (.returned (.tuple #[.slice none 0 0,.int .i64 ce])) w2 from ⟨HB1.out w2 HB2.out,.inl ⟨by rw [HCE.out];exact hc,by rw [HCE.out]⟩⟩)
   clear hc
   go_wp2
   go_ret2
   exact HE.out
set_option maxRecDepth 100000 in
set_option maxHeartbeats 2000000 in
theorem mapsOf_law {v1 v2 v3 v4:Value} (P:PgAt B w v1 v2 v3 v4 p) (hB:B≤w.heap.size) (hT:Tb w) (hb0:0<B) (m:Int):Calls Tryz.prog 3 #[.agg #[v1,v2,v3,v4],.int .i64 m] w fun e w'=>e=.returned (.bool true)∧Below w.heap.size w w':=by
 obtain ⟨a1,d1,hv1⟩:=sl_form P.ty
 obtain ⟨a2,d2,hv2⟩:=sl_form P.fu
 obtain ⟨a3,d3,hv3⟩:=sl_form P.ta
 obtain ⟨a4,d4,hv4⟩:=sl_form P.st
 subst hv1 hv2 hv3 hv4
 obtain ⟨W1,hW1⟩ : ∃ W1,w.alloc (.cells #[.slice a1 p.ty.length d1,.slice a2 p.fu.length d2,.slice a3 p.ta.length d3,.slice a4 p.st.length d4] 27)=W1:=⟨_,rfl⟩
 have b1:Below w.heap.size w W1:=by rw [← hW1];exact (Below.refl _ _).alloc (Nat.le_refl _) _
 have e1:W1.heap[w.heap.size]?=some (.cells #[.slice a1 p.ty.length d1,.slice a2 p.fu.length d2,.slice a3 p.ta.length d3,.slice a4 p.st.length d4] 27 (0,0)):=by rw [← hW1];exact heap_new _ _ rfl
 have HKP:=hide (show ∀ W:World,Below W1.heap.size W1 W→PgAt B W (.slice a1 p.ty.length d1) (.slice a2 p.fu.length d2) (.slice a3 p.ta.length d3) (.slice a4 p.st.length d4) p∧B≤W.heap.size∧Tb W from fun W h=>⟨P.keep (Nat.le_refl _) (fun j hj=>(bel_tr b1 h).block j (Nat.lt_of_lt_of_le hj hB)),Nat.le_trans hB (bel_tr b1 h).size,hT.keep ((bel_tr b1 h).block 0 (Nat.lt_of_lt_of_le hb0 hB))⟩)
 have HBX:=hide (show ∀ W:World,Below W1.heap.size W1 W→(W.cell? ⟨w.heap.size,0,none⟩=some (.slice a1 p.ty.length d1)∧W.cell? ⟨w.heap.size,1,none⟩=some (.slice a2 p.fu.length d2)∧W.cell? ⟨w.heap.size,2,none⟩=some (.slice a3 p.ta.length d3)∧W.cell? ⟨w.heap.size,3,none⟩=some (.slice a4 p.st.length d4))∧w.heap.size<W.heap.size from fun W h=>by
  have h1:=(h.block _ (lt_of_block e1)).trans e1
  exact ⟨⟨cell_of h1 rfl,cell_of h1 rfl,cell_of h1 rfl,cell_of h1 rfl⟩,lt_of_block h1⟩)
 have HOF:=hide (mapsOf_any (HKP.out W1 (Below.refl _ _)).1 (HKP.out W1 (Below.refl _ _)).2.1 (HKP.out W1 (Below.refl _ _)).2.2 hb0 m)
 have HRO:=hide (fun (W:World) (h:Below W1.heap.size W1 W)=>rof_any (HKP.out W h).1 (HKP.out W h).2.1 m)
 have HAW:=hide (fun (W:World) (h:Below W1.heap.size W1 W)=>awake19_any W (HKP.out W h).2.2)
 have HB1:=hide (show ∀ W:World,Below W1.heap.size W1 W→Below w.heap.size w W from fun W h=>bel_tr b1 h)
 obtain ⟨⟨k0,k1,k2,k3⟩,k4⟩:=HBX.out W1 (Below.refl _ _)
 clear P hB hT b1 e1
 have HNIL:=hide (fun W:World=>sameM_any (w:=W) (lo:=[]) (ms:=[]) (v:=.slice none 0 0) (u:=.slice none 0 0) ⟨none,0,rfl,fun j m h=>by simp at h⟩ ⟨none,0,rfl,fun j m h=>by simp at h⟩ (by simp) (by simp) (fun m h=>by cases h))
 go_enter Tryz.func3,Tryz.ntmps3
 go_wp2_with fail
 refine HOF.out.mono ?_
 rintro e w2 ⟨hb2,(⟨hc,rfl⟩ | ⟨hc,hi,rfl⟩ | ⟨k,f,F,v,hc,hm,hf,hF,rfl,hv⟩)⟩
 · have HB2:=hide (show Below W1.heap.size W1 w2 from hb2)
   have HC:=hide hc
   clear hb2 k0 k1 k2 k3 k4 HOF
   obtain ⟨⟨k0,k1,k2,k3⟩,k4⟩:=HBX.out w2 HB2.out
   obtain ⟨ce,hce⟩ : ∃ c,(checkP p).2.2=c:=⟨_,rfl⟩
   have HCE:=hide hce
   rw [hce] at hc ⊢
   clear hce
   go_wp2_with fail
   refine (HRO.out w2 HB2.out).mono ?_
   rintro e w3 ⟨hb3,(⟨_,rfl⟩ | ⟨hc2,_,_⟩ | ⟨_,_,_,_,hc2,_⟩)⟩
   · have HB3:=hide (bel_tr HB2.out hb3)
     rw [HCE.out]
     have q0:(ce == ce)=true:=by simp
     clear hb3 hc k0 k1 k2 k3 k4
     go_wp2_with fail
     refine (HAW.out w3 HB3.out).mono ?_
     rintro e w4 ⟨rfl,hb4⟩
     have HB4:=hide (bel_tr HB3.out hb4)
     clear hb4
     go_wp2_with fail
     refine (HNIL.out _).mono ?_
     rintro e w5 ⟨rfl,hb5⟩
     have HE:=hide (HB1.out w5 (bel_tr HB4.out hb5))
     clear hb5
     go_wp2
     go_ret
     exact ⟨rfl,HE.out⟩
   · exact absurd hc2 HC.out
   · exact absurd hc2 HC.out
 · have HB2:=hide (show Below W1.heap.size W1 w2 from hb2)
   have HC:=hide hc
   have HI:=hide hi
   clear hb2 k0 k1 k2 k3 k4 HOF hc hi
   obtain ⟨⟨k0,k1,k2,k3⟩,k4⟩:=HBX.out w2 HB2.out
   go_wp2_with fail
   refine (HRO.out w2 HB2.out).mono ?_
   rintro e w3 ⟨hb3,(⟨hc2,_⟩ | ⟨_,_,rfl⟩ | ⟨k,f,_,_,_,hm2,hf2,_⟩)⟩
   · exact absurd HC.out hc2
   · have HB3:=hide (bel_tr HB2.out hb3)
     clear hb3 k0 k1 k2 k3 k4
     go_wp2_with fail
     refine (HAW.out w3 HB3.out).mono ?_
     rintro e w4 ⟨rfl,hb4⟩
     have HB4:=hide (bel_tr HB3.out hb4)
     clear hb4
     go_wp2_with fail
     refine (HNIL.out _).mono ?_
     rintro e w5 ⟨rfl,hb5⟩
     have HE:=hide (HB1.out w5 (bel_tr HB4.out hb5))
     clear hb5
     go_wp2
     go_ret
     exact ⟨rfl,HE.out⟩
   · exfalso
     have h:=HI.out
     rw [hm2] at h
     have h2:=get_lt hf2
     have h3:=of_decide_eq_false h
     omega
 · subst hm
   have HB2:=hide (show Below W1.heap.size W1 w2 from hb2)
   have HC:=hide hc
   have HF:=hide hf
   have HFF:=hide hF
   have HV:=hide hv
   obtain ⟨la,lc,hlf,_⟩:=hv
   subst hlf
   clear hb2 hf hF hc k0 k1 k2 k3 k4 HOF
   obtain ⟨⟨k0,k1,k2,k3⟩,k4⟩:=HBX.out w2 HB2.out
   go_wp2_with fail
   refine (HRO.out w2 HB2.out).mono ?_
   rintro e w3 ⟨hb3,(⟨hc2,_⟩ | ⟨_,hi,_⟩ | ⟨k',f',F',v',_,hm2,hf2,hF2,rfl,hv2⟩)⟩
   · exact absurd HC.out hc2
   · exfalso
     have h2:=get_lt HF.out
     have h3:=of_decide_eq_false hi
     omega
   · obtain rfl:k' = k:=by omega
     have h9:=HF.out
     rw [hf2] at h9
     cases h9
     have h9:=HFF.out
     rw [hF2] at h9
     cases h9
     have HB3:=hide (bel_tr HB2.out hb3)
     have HV3:=hide (HV.out.below hb3)
     have HU3:=hide hv2
     obtain ⟨ua,uc,huf,_⟩:=hv2
     subst huf
     obtain ⟨_,o1,o2,_⟩:=check_ok HC.out
     have hH:=hok_of o1 o2
     have hfo:=hH.fu f (List.mem_of_getElem? hf2)
     have hI:=follow_inv hH hfo hF2
     have HSM:=hide (show ∀ W:World,Below w3.heap.size w3 W→Calls Tryz.prog 7 #[.slice la (selP f F.ah f.co.length).length lc,.slice ua (selP f F.ah f.co.length).length uc] W fun e W'=>e=.returned (.bool true)∧Below W.heap.size W W' from fun W h=>sameM_any (HV3.out.below h) (HU3.out.below h) (Nat.le_trans (selP_len _) hfo.nc) (by have:=hfo.nl;omega) (fun q hq=>by
      unfold selP at hq
      rw [List.mem_filterMap] at hq
      obtain ⟨y,_,hy⟩:=hq
      split at hy
      · cases ho:F.ah[y]? with
        | none=>rw [ho] at hy;cases hy
        | some oo =>
         rw [ho] at hy
         cases oo with
         | none=>cases hy
         | some s =>
          cases hy
          have h1:=(hI.st y s ho).2
          have h2:=hfo.nc
          show s.length≤_
          omega
      · cases hy))
     obtain ⟨ln,hln⟩ : ∃ q,(selP f F.ah f.co.length).length=q:=⟨_,rfl⟩
     rw [hln] at HSM ⊢
     clear hb3 hf2 hF2 hm2 o1 o2 hH hfo hI k0 k1 k2 k3 k4 HV HRO hln HV3 HU3
     go_wp2_with fail
     refine (HAW.out w3 HB3.out).mono ?_
     rintro e w4 ⟨rfl,hb4⟩
     have HS4:=hide (HSM.out w4 hb4)
     have HB4:=hide (bel_tr HB3.out hb4)
     clear hb4
     go_wp2_with fail
     refine HS4.out.mono ?_
     rintro e w5 ⟨rfl,hb5⟩
     have HE:=hide (HB1.out w5 (bel_tr HB4.out hb5))
     clear hb5
     go_wp2
     go_ret
     exact ⟨rfl,HE.out⟩
end
end Go.Proofs.YtkdojpnihinpbaaGreatDoor
