/- behind, by its cases. -/
import Derived.Test.YtkdojpnihinpbaaGreatDoorMpBJo
import Derived.Test.YtkdojpnihinpbaaGreatDoorVfTkJo
namespace Go.Proofs.YtkdojpnihinpbaaGreatDoor
set_option maxRecDepth 100000
set_option maxHeartbeats 1000000
open Go.RowKit
section
variable {B E b:Nat} {X:Nat→Prop} {w:World} {a1 a2 a3 a4 b1 b2 b3 b4:Option Addr} {d1 d2 d3 d4 e1 e2 e3 e4:Nat} {p:Pg} {f:Fd} {s:List Int}
variable (Y:WyAt B w (.slice a1 p.ty.length d1) (.slice a2 p.fu.length d2) (.slice a3 p.ta.length d3) (.slice a4 p.st.length d4) (.slice b1 f.lo.length e1) (.slice b2 f.re.length e2) (.slice b3 f.ar.length e3) (.slice b4 f.co.length e4) p f) (P:PileAt X w E b s) (hX:∀ j,X j→B≤j∧j<w.heap.size) (hs:s.length≤1000000000000)
include Y P hX hs
theorem bh_17 (i:In3) (ho:i.o=17) (hlen:2≤s.length) {low:Int} (hl1:(s.take (s.length - 1)).getLast?.getD 0=low) (hl2:0≤low∧low≤2000000):Calls Tryz.prog 19 #[.agg #[.slice a1 p.ty.length d1,.slice a2 p.fu.length d2,.slice a3 p.ta.length d3,.slice a4 p.st.length d4,.int .i64 f.pa,.slice b1 f.lo.length e1,.slice b2 f.re.length e2,.slice b3 f.ar.length e3,.slice b4 f.co.length e4],.agg #[.int .i64 i.o,.int .i64 i.a,.int .i64 i.b],pp b] w (BhO X E (s.take (s.length - 2)++[low - 3+2]) w):=by
 obtain ⟨W1,hW1,hW,i0,i1,i2,hlW,hlI,HWB,HIB,HB,HY,HP,HX,HXN,HWO,HWI,HW1,HTP,HTK,HSL⟩:=bpre Y i P hX hs
 have HPOS:=hide (show 0<s.length by omega)
 have HLEN:=hide hlen
 clear hlen
 have HLE1:=hide (show 1≤s.length by have:=HLEN.out;omega)
 have HT1:=hide (show ∀ (W:World) (b' : Nat),PileAt X W E b' (s.take (s.length - 1))→Calls Tryz.prog 36 #[pp b'] W fun e W'=>e=.returned (.int .i64 low)∧Below W.heap.size W W' from fun W b' hp=>by
  have:=HPOS.out
  have h1:=HLEN.out
  have:=top_any hp (by rw [List.length_take];omega) (by have:=HSL.out;rw [List.length_take];omega)
  rw [hl1] at this
  exact this)
 obtain ⟨q1,q2⟩:=hl2
 clear hl1
 clear Y P hX hs hW
 rw [ho] at i0 hW1 HIB ⊢
 clear ho
 go_enter Tryz.func19,Tryz.ntmps19
 go_wp2_with fail
 refine (HWO.out W1 2 (Below.refl _ _) HLEN.out).mono ?_
 rintro e w3 ⟨b3,rfl,hp3,hb3⟩
 have HB3:=hide (show Below W1.heap.size W1 w3 from bel_tr (Below.refl _ _) hb3)
 have HP3:=hide hp3
 clear hb3 hp3
 go_wp2_with fail
 refine (HWO.out w3 1 HB3.out HLE1.out).mono ?_
 rintro e w4 ⟨b4,rfl,hp4,hb4⟩
 have HB4:=hide (show Below W1.heap.size W1 w4 from bel_tr HB3.out hb4)
 have HP34:=hide (HP3.out.keep (Kp.of_below hb4))
 have HT2:=hide (HT1.out w4 b4 hp4)
 clear hb4 hp4
 go_wp2_with fail
 refine HT2.out.mono ?_
 rintro e w5 ⟨rfl,hb5⟩
 have HB5:=hide (show Below W1.heap.size W1 w5 from bel_tr HB4.out hb5)
 have HP35:=hide (HP34.out.keep (Kp.of_below hb5))
 clear hb5
 go_wp2_with fail
 refine (HW1.out w5 b3 (s.take (s.length - 2)) (low - 3+2) HB5.out HP35.out (HTK.out _)).mono ?_
 rintro e w9 ⟨b9,rfl,hp9,hb9⟩
 have HB9:=hide (show Below W1.heap.size W1 w9 from bel_tr HB5.out hb9)
 have HP9:=hide hp9
 clear hb9 hp9
 go_wp2
 go_ret
 exact ⟨b9,rfl,HP9.out,bel_tr HB.out HB9.out⟩
theorem bh_22 (i:In3) (ho:i.o=22) {m qq:Nat} {g:Fd} (ha:i.a=(m:Int)) (hx:p.fu[m]?=some g) (hqa:g.pa=(qq:Int)) (hql:qq≤s.length) (hgr:g.re.length≤4096):Calls Tryz.prog 19 #[.agg #[.slice a1 p.ty.length d1,.slice a2 p.fu.length d2,.slice a3 p.ta.length d3,.slice a4 p.st.length d4,.int .i64 f.pa,.slice b1 f.lo.length e1,.slice b2 f.re.length e2,.slice b3 f.ar.length e3,.slice b4 f.co.length e4],.agg #[.int .i64 i.o,.int .i64 i.a,.int .i64 i.b],pp b] w (BhO X E (s.take (s.length - qq)++g.re) w):=by
 obtain ⟨W1,hW1,hW,i0,i1,i2,hlW,hlI,HWB,HIB,HB,HY,HP,HX,HXN,HWO,HWI,HW1,HTP,HTK,HSL⟩:=bpre Y i P hX hs
 obtain ⟨gg,oo,c,n,y1,y2,y3,y4,hv,hnn,hlt,hg,⟨c0,c1,c2,c3,c4⟩,r1,r2,r3,r4⟩:=fd_at (HY.out W1 (Below.refl _ _)).pg.fu hx
 cases hv
 have k1:W1.cell? ⟨w.heap.size,1,none⟩=some (.slice (some ⟨gg,oo,none⟩) p.fu.length d2):=cell_of hW rfl
 have hgw:gg<W1.heap.size:=Nat.lt_of_lt_of_le hg (HY.out W1 (Below.refl _ _)).hB
 have dd:decide (m<p.fu.length)=true:=by simpa using hlt
 have HCA:=hide (show ∀ (W:World) (b' : Nat) (l' : List Int),Below W1.heap.size W1 W→PileAt X W E b' l'→l'.length≤s.length→qq≤l'.length→Calls Tryz.prog 38 #[.agg #[.int .i64 g.pa,y1,y2,y3,y4],pp b'] W (BhO X E (l'.take (l'.length - qq)++g.re) W) from fun W b' l' h hp hl hq=>called_any hp (HX.out W h) (HY.out W h).hB (by omega) hqa hq (ints_keep (Nat.le_refl _) (fun j hj=>h.block j (Nat.lt_of_lt_of_le hj (HY.out W1 (Below.refl _ _)).hB)) r1) (ints_keep (Nat.le_refl _) (fun j hj=>h.block j (Nat.lt_of_lt_of_le hj (HY.out W1 (Below.refl _ _)).hB)) r2) (ints_keep (Nat.le_refl _) (fun j hj=>h.block j (Nat.lt_of_lt_of_le hj (HY.out W1 (Below.refl _ _)).hB)) r3) (ins_keep (Nat.le_refl _) (fun j hj=>h.block j (Nat.lt_of_lt_of_le hj (HY.out W1 (Below.refl _ _)).hB)) r4) hgr)
 have HQL:=hide hql
 rw [ha] at i1 hW1 HIB ⊢
 clear ha hx hqa hql hgr r1 r2 r3 r4 hg
 clear Y P hX hs hW
 rw [ho] at i0 hW1 HIB ⊢
 clear ho
 go_enter Tryz.func19,Tryz.ntmps19
 go_wp2_with fail
 refine (HCA.out W1 b s (Below.refl _ _) (HP.out W1 (Below.refl _ _)) (Nat.le_refl _) HQL.out).mono ?_
 rintro e w9 ⟨b9,rfl,hp9,hb9⟩
 have HB9:=hide hb9
 have HP9:=hide hp9
 clear hb9 hp9
 go_wp2
 go_ret
 exact ⟨b9,rfl,HP9.out,bel_tr HB.out HB9.out⟩
theorem bh_23 (i:In3) (ho:i.o=23) (hlen:1≤s.length) {t m0 qq:Nat} {tb:List Int} {g:Fd} (ha:i.a=(t:Int)) (ht:p.ta[t]?=some tb) (h0:tb[0]?=some (m0:Int)) (hx:p.fu[m0]?=some g) (hqa:g.pa=(qq:Int)) (hql:qq+1≤s.length) (hgr:g.re.length≤4096):Calls Tryz.prog 19 #[.agg #[.slice a1 p.ty.length d1,.slice a2 p.fu.length d2,.slice a3 p.ta.length d3,.slice a4 p.st.length d4,.int .i64 f.pa,.slice b1 f.lo.length e1,.slice b2 f.re.length e2,.slice b3 f.ar.length e3,.slice b4 f.co.length e4],.agg #[.int .i64 i.o,.int .i64 i.a,.int .i64 i.b],pp b] w (BhO X E ((s.take (s.length - 1)).take ((s.take (s.length - 1)).length - qq)++g.re) w):=by
 obtain ⟨W1,hW1,hW,i0,i1,i2,hlW,hlI,HWB,HIB,HB,HY,HP,HX,HXN,HWO,HWI,HW1,HTP,HTK,HSL⟩:=bpre Y i P hX hs
 have HPOS:=hide (show 0<s.length by omega)
 have HLEN:=hide hlen
 clear hlen
 obtain ⟨gg,oo,c,n,y1,y2,y3,y4,hv,hnn,hlt,hg,⟨c0,c1,c2,c3,c4⟩,r1,r2,r3,r4⟩:=fd_at (HY.out W1 (Below.refl _ _)).pg.fu hx
 cases hv
 obtain ⟨gt,ot,ct,nt,u,hv2,hnt,hlt2,hgt,hct,hlu⟩:=lst_at (HY.out W1 (Below.refl _ _)).pg.ta ht
 cases hv2
 obtain ⟨ai,ci,rfl,_,hel⟩:=hlu
 obtain ⟨gi,oi,rfl,hgi,hci,_⟩:=ints_at hel h0
 rw [Nat.add_zero] at hci
 have hgw:gg<W1.heap.size:=Nat.lt_of_lt_of_le hg (HY.out W1 (Below.refl _ _)).hB
 have hgtw:gt<W1.heap.size:=Nat.lt_of_lt_of_le hgt (HY.out W1 (Below.refl _ _)).hB
 have hgiw:gi<W1.heap.size:=Nat.lt_of_lt_of_le hgi (HY.out W1 (Below.refl _ _)).hB
 have dd:decide (m0<p.fu.length)=true:=by simpa using hlt
 have dt:decide (t<p.ta.length)=true:=by simpa using hlt2
 have di:decide (0<tb.length)=true:=by simpa using get_lt h0
 have dl:=get_lt h0
 have HCA:=hide (show ∀ (W:World) (b' : Nat) (l' : List Int),Below W1.heap.size W1 W→PileAt X W E b' l'→l'.length≤s.length→qq≤l'.length→Calls Tryz.prog 38 #[.agg #[.int .i64 g.pa,y1,y2,y3,y4],pp b'] W (BhO X E (l'.take (l'.length - qq)++g.re) W) from fun W b' l' h hp hl hq=>called_any hp (HX.out W h) (HY.out W h).hB (by omega) hqa hq (ints_keep (Nat.le_refl _) (fun j hj=>h.block j (Nat.lt_of_lt_of_le hj (HY.out W1 (Below.refl _ _)).hB)) r1) (ints_keep (Nat.le_refl _) (fun j hj=>h.block j (Nat.lt_of_lt_of_le hj (HY.out W1 (Below.refl _ _)).hB)) r2) (ints_keep (Nat.le_refl _) (fun j hj=>h.block j (Nat.lt_of_lt_of_le hj (HY.out W1 (Below.refl _ _)).hB)) r3) (ins_keep (Nat.le_refl _) (fun j hj=>h.block j (Nat.lt_of_lt_of_le hj (HY.out W1 (Below.refl _ _)).hB)) r4) hgr)
 have HQL:=hide (show qq≤(s.take (s.length - 1)).length by rw [List.length_take];omega)
 rw [ha] at i1 hW1 HIB ⊢
 have HS0:=hide (show ∀ W:World,Below W1.heap.size W1 W→(fun W=>W.cell? ⟨w.heap.size,1,none⟩=some (.slice (some ⟨gg,oo,none⟩) p.fu.length d2)∧W.cell? ⟨w.heap.size,2,none⟩=some (.slice (some ⟨gt,ot,none⟩) p.ta.length d3)∧W.cell? ⟨w.heap.size+1,1,none⟩=some (.int .i64 t)∧W.cell? ⟨gt,ot+t,none⟩=some (.slice (some ⟨gi,oi,none⟩) tb.length ci)∧W.cell? ⟨gi,oi,none⟩=some (.int .i64 m0)∧W.cell? ⟨gg,oo+m0*5,none⟩=some (.int .i64 g.pa)∧W.cell? ⟨gg,oo+m0*5+1,none⟩=some y1∧W.cell? ⟨gg,oo+m0*5+2,none⟩=some y2∧W.cell? ⟨gg,oo+m0*5+3,none⟩=some y3∧W.cell? ⟨gg,oo+m0*5+4,none⟩=some y4) W from fun W h=>by
  have h1:=HWB.out W h
  exact ⟨cell_of h1 rfl,cell_of h1 rfl,cell_of (HIB.out W h) rfl,(h.cell (p:=⟨gt,ot+t,none⟩) hgtw).trans hct,(h.cell (p:=⟨gi,oi,none⟩) hgiw).trans hci,(h.cell (p:=⟨gg,oo+m0*5,none⟩) hgw).trans c0,(h.cell (p:=⟨gg,oo+m0*5+1,none⟩) hgw).trans c1,(h.cell (p:=⟨gg,oo+m0*5+2,none⟩) hgw).trans c2,(h.cell (p:=⟨gg,oo+m0*5+3,none⟩) hgw).trans c3,(h.cell (p:=⟨gg,oo+m0*5+4,none⟩) hgw).trans c4⟩)
 clear ha hx hqa hql hgr r1 r2 r3 r4 hg ht h0 hel hgt hgi hct hci
 clear Y P hX hs hW
 rw [ho] at i0 hW1 HIB ⊢
 clear ho
 go_enter Tryz.func19,Tryz.ntmps19
 go_wp2_with fail
 refine wp_region_held_drew (S:=(fun W=>W.cell? ⟨w.heap.size,1,none⟩=some (.slice (some ⟨gg,oo,none⟩) p.fu.length d2)∧W.cell? ⟨w.heap.size,2,none⟩=some (.slice (some ⟨gt,ot,none⟩) p.ta.length d3)∧W.cell? ⟨w.heap.size+1,1,none⟩=some (.int .i64 t)∧W.cell? ⟨gt,ot+t,none⟩=some (.slice (some ⟨gi,oi,none⟩) tb.length ci)∧W.cell? ⟨gi,oi,none⟩=some (.int .i64 m0)∧W.cell? ⟨gg,oo+m0*5,none⟩=some (.int .i64 g.pa)∧W.cell? ⟨gg,oo+m0*5+1,none⟩=some y1∧W.cell? ⟨gg,oo+m0*5+2,none⟩=some y2∧W.cell? ⟨gg,oo+m0*5+3,none⟩=some y3∧W.cell? ⟨gg,oo+m0*5+4,none⟩=some y4)) (by kernel_rfl) (HS0.out _ (below_drew (Below.refl _ _))) (fun hHeld1=>?_)
 refine tk 0 ?_;simp only [sp]
 refine tk 1 ?_;simp only [sp]
 refine tk 2 ?_;simp only [sp]
 refine tk 3 ?_;simp only [sp]
 refine tk 4 ?_;simp only [sp]
 refine tk 5 ?_;simp only [sp]
 refine tk 6 ?_;simp only [sp]
 refine tk 7 ?_;simp only [sp]
 refine tk 8 ?_;simp only [sp]
 refine tk 9 ?_;simp only [sp]
 refine tk 10 ?_;simp only [sp]
 refine tk 11 ?_;simp only [sp]
 refine tk 12 ?_;simp only [sp]
 refine tk 13 ?_;simp only [sp]
 refine tk 14 ?_;simp only [sp]
 refine rd 15 (fun K hK=>?_)
 go_simp
 go_at_call 35
 refine (HWO.out _ 1 (below_drew (Below.refl _ _)) HLEN.out).mono ?_
 rintro e w3 ⟨b3,rfl,hp3,hb3⟩
 have HB3:=hide (show Below W1.heap.size W1 w3 from bel_tr (below_drew (Below.refl _ _)) hb3)
 have HP3:=hide hp3
 clear hb3 hp3
 go_wp2_with fail
 refine hK.out _ _ (HS0.out _ HB3.out) (fun hHeld17=>?_)
 clear hK K
 try simp only [sp]
 refine rd 16 (fun K hK=>?_)
 go_simp
 go_at_call 38
 refine (HCA.out _ _ _ HB3.out HP3.out (HTK.out _) HQL.out).mono ?_
 rintro e w9 ⟨b9,rfl,hp9,hb9⟩
 have HB9:=hide (show Below W1.heap.size W1 w9 from bel_tr HB3.out hb9)
 have HP9:=hide hp9
 clear hb9 hp9
 go_wp2_with fail
 refine hK.out _ _ (HS0.out _ HB9.out) (fun hHeld18=>?_)
 clear hK K
 try simp only [sp]
 refine tk 17 ?_;simp only [sp]
 refine wpAnyH_done (by kernel_rfl) ?_ _
 go_wp2
 go_ret
 exact ⟨b9,rfl,HP9.out,bel_tr HB.out HB9.out⟩
end
end Go.Proofs.YtkdojpnihinpbaaGreatDoor
