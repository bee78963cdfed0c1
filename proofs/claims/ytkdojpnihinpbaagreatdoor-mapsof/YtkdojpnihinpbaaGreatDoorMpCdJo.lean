/- behind, by its cases. -/
import Derived.Test.YtkdojpnihinpbaaGreatDoorMpBJo
import Derived.Test.YtkdojpnihinpbaaGreatDoorVfTkJo
import Derived.Test.YtkdojpnihinpbaaGreatDoorMpCaJo
import Derived.Test.YtkdojpnihinpbaaGreatDoorMpCbJo
import Derived.Test.YtkdojpnihinpbaaGreatDoorMpCeJo
import Derived.Test.YtkdojpnihinpbaaGreatDoorVfWJo
namespace Go.Proofs.YtkdojpnihinpbaaGreatDoor
set_option maxRecDepth 100000
set_option maxHeartbeats 1000000
open Go.RowKit
section
variable {B E b:Nat} {X:Nat→Prop} {w:World} {a1 a2 a3 a4 b1 b2 b3 b4:Option Addr} {d1 d2 d3 d4 e1 e2 e3 e4:Nat} {p:Pg} {f:Fd} {s:List Int}
variable (Y:WyAt B w (.slice a1 p.ty.length d1) (.slice a2 p.fu.length d2) (.slice a3 p.ta.length d3) (.slice a4 p.st.length d4) (.slice b1 f.lo.length e1) (.slice b2 f.re.length e2) (.slice b3 f.ar.length e3) (.slice b4 f.co.length e4) p f) (P:PileAt X w E b s) (hX:∀ j,X j→B≤j∧j<w.heap.size) (hs:s.length≤1000000000000)
include Y P hX hs
theorem bh_14 (i:In3) (ho:i.o=14) (hlen:1≤s.length) (hn:p.ty.length≤1024) (hk:isKB p.ty.length (s.getLast?.getD 0)=true) {t m:Nat} (htt:(bareK (s.getLast?.getD 0) - 2) / 2=(t:Int)) (h2:2≤bareK (s.getLast?.getD 0)) {fs:List Int} (hfs:p.ty[t]?=some fs) (ha:i.a=(m:Int)) {y:Int} (hy:fs[m]?=some y):Calls Tryz.prog 19 #[.agg #[.slice a1 p.ty.length d1,.slice a2 p.fu.length d2,.slice a3 p.ta.length d3,.slice a4 p.st.length d4,.int .i64 f.pa,.slice b1 f.lo.length e1,.slice b2 f.re.length e2,.slice b3 f.ar.length e3,.slice b4 f.co.length e4],.agg #[.int .i64 i.o,.int .i64 i.a,.int .i64 i.b],pp b] w (BhO X E (s.take (s.length - 1)++[y]) w):=by
 obtain ⟨W1,hW1,hW,i0,i1,i2,hlW,hlI,HWB,HIB,HB,HY,HP,HX,HXN,HWO,HWI,HW1,HTP,HTK,HSL⟩:=bpre Y i P hX hs
 have HPOS:=hide (show 0<s.length by omega)
 have HLEN:=hide hlen
 clear hlen
 have HFI:=hide (show ∀ W:World,Below W1.heap.size W1 W→Calls Tryz.prog 37 #[.agg #[.slice a1 p.ty.length d1,.slice a2 p.fu.length d2,.slice a3 p.ta.length d3,.slice a4 p.st.length d4,.int .i64 f.pa,.slice b1 f.lo.length e1,.slice b2 f.re.length e2,.slice b3 f.ar.length e3,.slice b4 f.co.length e4],.int .i64 (s.getLast?.getD 0)] W fun e W'=>∃ u,e=.returned u∧SlAt 1 IntP B W' u fs∧Below W.heap.size W W' from fun W h=>fields_any (HY.out W h) hn hk htt h2 hfs f.pa)
 have hfl:m<fs.length:=get_lt hy
 have HHB:=hide (HY.out W1 (Below.refl _ _)).hB
 have HYY:=hide hy
 rw [ha] at i1 hW1 HIB ⊢
 have HS0:=hide (show ∀ W:World,Below W1.heap.size W1 W→(fun W=>W.cell? ⟨w.heap.size,0,none⟩=some (.slice a1 p.ty.length d1)∧W.cell? ⟨w.heap.size,1,none⟩=some (.slice a2 p.fu.length d2)∧W.cell? ⟨w.heap.size,2,none⟩=some (.slice a3 p.ta.length d3)∧W.cell? ⟨w.heap.size,3,none⟩=some (.slice a4 p.st.length d4)∧W.cell? ⟨w.heap.size,4,none⟩=some (.int .i64 f.pa)∧W.cell? ⟨w.heap.size,5,none⟩=some (.slice b1 f.lo.length e1)∧W.cell? ⟨w.heap.size,6,none⟩=some (.slice b2 f.re.length e2)∧W.cell? ⟨w.heap.size,7,none⟩=some (.slice b3 f.ar.length e3)∧W.cell? ⟨w.heap.size,8,none⟩=some (.slice b4 f.co.length e4)∧W.cell? ⟨w.heap.size+1,1,none⟩=some (.int .i64 m)) W from fun W h=>by
  have h1:=HWB.out W h
  have h3:=HIB.out W h
  exact ⟨cell_of h1 rfl,cell_of h1 rfl,cell_of h1 rfl,cell_of h1 rfl,cell_of h1 rfl,cell_of h1 rfl,cell_of h1 rfl,cell_of h1 rfl,cell_of h1 rfl,cell_of h3 rfl⟩)
 clear ha hn hk htt h2 hfs hy
 clear Y P hX hs hW
 rw [ho] at i0 hW1 HIB ⊢
 clear ho
 go_enter Tryz.func19,Tryz.ntmps19
 generalize hlast:s.getLast?.getD 0=lst at *
 clear hlast
 go_wp2_with fail
 refine wp_region_held_drew (S:=(fun W=>W.cell? ⟨w.heap.size,0,none⟩=some (.slice a1 p.ty.length d1)∧W.cell? ⟨w.heap.size,1,none⟩=some (.slice a2 p.fu.length d2)∧W.cell? ⟨w.heap.size,2,none⟩=some (.slice a3 p.ta.length d3)∧W.cell? ⟨w.heap.size,3,none⟩=some (.slice a4 p.st.length d4)∧W.cell? ⟨w.heap.size,4,none⟩=some (.int .i64 f.pa)∧W.cell? ⟨w.heap.size,5,none⟩=some (.slice b1 f.lo.length e1)∧W.cell? ⟨w.heap.size,6,none⟩=some (.slice b2 f.re.length e2)∧W.cell? ⟨w.heap.size,7,none⟩=some (.slice b3 f.ar.length e3)∧W.cell? ⟨w.heap.size,8,none⟩=some (.slice b4 f.co.length e4)∧W.cell? ⟨w.heap.size+1,1,none⟩=some (.int .i64 m))) (by kernel_rfl) (HS0.out _ (below_drew (Below.refl _ _))) (fun hHeld1=>?_)
 refine tk 0 ?_;simp only [sp]
 refine tk 2 ?_;simp only [sp]
 refine tk 3 ?_;simp only [sp]
 refine tk 6 ?_;simp only [sp]
 refine tk 7 ?_;simp only [sp]
 refine rd 1 (fun K hK=>?_)
 go_simp
 go_at_call 35
 refine (HWO.out _ 1 (below_drew (Below.refl _ _)) HLEN.out).mono ?_
 rintro e w3 ⟨b3,rfl,hp3,hb3⟩
 have HB3:=hide (show Below W1.heap.size W1 w3 from bel_tr (below_drew (Below.refl _ _)) hb3)
 have HP3:=hide hp3
 clear hb3 hp3
 go_wp2_with fail
 refine hK.out _ _ (HS0.out _ HB3.out) (fun hHeld7=>?_)
 clear hK K
 try simp only [sp]
 refine rd 4 (fun K hK=>?_)
 go_simp
 go_at_call 36
 refine (HTP.out _ HB3.out HPOS.out).mono ?_
 rintro e w4 ⟨rfl,hb4⟩
 have HB4:=hide (bel_tr HB3.out hb4)
 have HP4:=hide (HP3.out.keep (Kp.of_below hb4))
 clear hb4
 go_wp2_with fail
 refine hK.out _ _ (HS0.out _ HB4.out) (fun hHeld8=>?_)
 clear hK K
 try simp only [sp]
 refine rd 5 (fun K hK=>?_)
 go_simp
 go_at_call 37
 refine (HFI.out _ HB4.out).mono ?_
 rintro e w5 ⟨u,rfl,hu,hb5⟩
 have HB5:=hide (bel_tr HB4.out hb5)
 have HP5:=hide (HP4.out.keep (Kp.of_below hb5))
 obtain ⟨ao,cap,rfl,_,hel⟩:=hu
 obtain ⟨g,q,rfl,hg,hcg,_⟩:=ints_at hel HYY.out
 have HG:=hide hg
 have HCG:=hide hcg
 have dd:decide (m<fs.length)=true:=(by simpa using hfl)
 clear hb5 hel hg hcg
 go_wp2_with fail
 refine hK.out _ _ (HS0.out _ HB5.out) (fun hHeld9=>?_)
 clear hK K
 try simp only [sp]
 refine tk 8 ?_;simp only [sp]
 have HS1:=hide (show ∀ W:World,Below w5.heap.size w5 W→W.cell? ⟨g,q+m,none⟩=some (.int .i64 y) from fun W h=>(h.cell (p:=⟨g,q+m,none⟩) (Nat.lt_of_lt_of_le HG.out (Nat.le_trans HHB.out HB5.out.size))).trans HCG.out)
 have k9:=HS1.out w5 (Below.refl _ _)
 have hgw:g<w5.heap.size:=Nat.lt_of_lt_of_le HG.out (Nat.le_trans HHB.out HB5.out.size)
 refine rd 9 (fun K hK=>?_)
 go_simp
 go_wp2_with fail
 refine hK.out _ _ (HS0.out _ HB5.out) (fun hHeld11=>?_)
 clear hK K
 try simp only [sp]
 have HA5:=hide (show Below W1.heap.size W1 (w5.alloc (.cells #[.int .i64 y] 3)) from HB5.out.alloc HB5.out.size _)
 refine rd 10 (fun K hK=>?_)
 go_simp
 go_wp2_with fail
 refine hK.out _ _ (HS0.out _ HA5.out) (fun hHeld12=>?_)
 clear hK K
 try simp only [sp]
 refine rd 11 (fun K hK=>?_)
 go_simp
 go_at_call 34
 refine (HW1.out w5 b3 _ y HB5.out HP5.out (HTK.out _)).mono ?_
 rintro e w9 ⟨b9,rfl,hp9,hb9⟩
 have HB9:=hide (show Below W1.heap.size W1 w9 from bel_tr HB5.out hb9)
 have HP9:=hide hp9
 clear hb9 hp9
 go_wp2_with fail
 refine hK.out _ _ (HS0.out _ HB9.out) (fun hHeld13=>?_)
 clear hK K
 try simp only [sp]
 refine tk 12 ?_;simp only [sp]
 refine wpAnyH_done (by kernel_rfl) ?_ _
 go_wp2
 go_ret
 exact ⟨b9,rfl,HP9.out,bel_tr HB.out HB9.out⟩
theorem bh_16 (i:In3) (ho:i.o=16) (hlen:1≤s.length) (hn:p.ty.length≤1024) (hk:isKB p.ty.length (s.getLast?.getD 0)=true) {t:Nat} (hib:i.b=(t:Int)) (ht:t≤1024):Calls Tryz.prog 19 #[.agg #[.slice a1 p.ty.length d1,.slice a2 p.fu.length d2,.slice a3 p.ta.length d3,.slice a4 p.st.length d4,.int .i64 f.pa,.slice b1 f.lo.length e1,.slice b2 f.re.length e2,.slice b3 f.ar.length e3,.slice b4 f.co.length e4],.agg #[.int .i64 i.o,.int .i64 i.a,.int .i64 i.b],pp b] w (BhO X E (s.take (s.length - 1)++[locK (s.getLast?.getD 0)+2+2*(t:Int)]) w):=by
 obtain ⟨W1,hW1,hW,i0,i1,i2,hlW,hlI,HWB,HIB,HB,HY,HP,HX,HXN,HWO,HWI,HW1,HTP,HTK,HSL⟩:=bpre Y i P hX hs
 have HPOS:=hide (show 0<s.length by omega)
 have HLEN:=hide hlen
 clear hlen
 have hlow:bits .and .i64 (s.getLast?.getD 0) 1048576=locK (s.getLast?.getD 0):=(bits_bare hn hk).2
 have hlk:locK (s.getLast?.getD 0)=0∨locK (s.getLast?.getD 0)=1048576:=by unfold locK;split <;> simp
 clear hn hk
 have b8:(t:Int)≤1024:=by omega
 have b9:(0:Int)≤(t:Int):=by omega
 rw [hib] at i2 hW1 HIB ⊢
 clear hib ht
 clear Y P hX hs hW
 rw [ho] at i0 hW1 HIB ⊢
 clear ho
 go_enter Tryz.func19,Tryz.ntmps19
 generalize hlast:s.getLast?.getD 0=lst at *
 clear hlast
 generalize locK lst=lk at *
 have b10:lk≤1048576:=by omega
 have b11:0≤lk:=by omega
 clear hlk
 have wq:IntKind.i64.wrap (2*(t:Int))=2*(t:Int):=by go_arith
 have wr:IntKind.i64.wrap (lk+2)=lk+2:=by go_arith
 have ws:IntKind.i64.wrap (lk+2+2*(t:Int))=lk+2+2*(t:Int):=by go_arith
 go_wp2_with fail
 refine wp_region_held_drew (S:=(fun W=>W.cell? ⟨w.heap.size+1,2,none⟩=some (.int .i64 t))) (by kernel_rfl) i2 (fun hHeld15=>?_)
 refine tk 0 ?_;simp only [sp]
 refine tk 2 ?_;simp only [sp]
 refine tk 6 ?_;simp only [sp]
 refine tk 7 ?_;simp only [sp]
 refine tk 8 ?_;simp only [sp]
 refine rd 1 (fun K hK=>?_)
 go_simp
 go_at_call 35
 refine (HWO.out _ 1 (below_drew (Below.refl _ _)) HLEN.out).mono ?_
 rintro e w3 ⟨b3,rfl,hp3,hb3⟩
 have HB3:=hide (show Below W1.heap.size W1 w3 from bel_tr (below_drew (Below.refl _ _)) hb3)
 have HP3:=hide hp3
 clear hb3 hp3
 go_wp2_with fail
 refine hK.out _ _ (cell_of (HIB.out _ HB3.out) rfl) (fun hHeld21=>?_)
 clear hK K
 try simp only [sp]
 refine rd 3 (fun K hK=>?_)
 go_simp
 go_at_call 36
 refine (HTP.out _ HB3.out HPOS.out).mono ?_
 rintro e w4 ⟨rfl,hb4⟩
 have HB4:=hide (bel_tr HB3.out hb4)
 have HP4:=hide (HP3.out.keep (Kp.of_below hb4))
 clear hb4
 go_wp2_with fail
 refine hK.out _ _ (cell_of (HIB.out _ HB4.out) rfl) (fun hHeld22=>?_)
 clear hK K
 try simp only [sp]
 refine tk 4 ?_;simp only [sp]
 refine tk 5 ?_;simp only [sp]
 refine tk 9 ?_;simp only [sp]
 have HA4:=hide (show Below W1.heap.size W1 (w4.alloc (.cells #[.int .i64 (lk+2+2*(t:Int))] 3)) from HB4.out.alloc HB4.out.size _)
 refine rd 10 (fun K hK=>?_)
 go_simp
 go_wp2_with fail
 refine hK.out _ _ (cell_of (HIB.out _ HA4.out) rfl) (fun hHeld26=>?_)
 clear hK K
 try simp only [sp]
 refine rd 11 (fun K hK=>?_)
 go_simp
 go_at_call 34
 refine (HW1.out w4 b3 _ (lk+2+2*(t:Int)) HB4.out HP4.out (HTK.out _)).mono ?_
 rintro e w9 ⟨b9,rfl,hp9,hb9⟩
 have HB9:=hide (show Below W1.heap.size W1 w9 from bel_tr HB4.out hb9)
 have HP9:=hide hp9
 clear hb9 hp9
 go_wp2_with fail
 refine hK.out _ _ (cell_of (HIB.out _ HB9.out) rfl) (fun hHeld27=>?_)
 clear hK K
 try simp only [sp]
 refine tk 12 ?_;simp only [sp]
 refine wpAnyH_done (by kernel_rfl) ?_ _
 go_wp2
 go_ret
 exact ⟨b9,rfl,HP9.out,bel_tr HB.out HB9.out⟩
end
end Go.Proofs.YtkdojpnihinpbaaGreatDoor

namespace Go.Proofs.YtkdojpnihinpbaaGreatDoor
open Go.RowKit
def BfO (X:Nat→Prop) (E:Nat) (bl ns:List Int) (w:World) (e:Ending) (W:World):Prop:=∃ b' l',e=.returned (pp b')∧PileAt X W E b' l'∧Below w.heap.size w W∧(ns≠[]→l' = bl)
section
variable {B E b x:Nat} {X:Nat→Prop} {w:World} {a1 a2 a3 a4 b1 b2 b3 b4:Option Addr} {d1 d2 d3 d4 e1 e2 e3 e4:Nat} {p:Pg} {f:Fd} {s bl ns:List Int} {i:In3}
theorem of_bh {fn:Nat} {args:Array Value} {l' : List Int} (h:Calls Tryz.prog fn args w (BhO X E l' w)) (hl:ns≠[]→l' = bl):Calls Tryz.prog fn args w (BfO X E bl ns w):=h.mono (by
  rintro e W ⟨b',h1,h2,h3⟩
  exact ⟨b',l',h1,h2,h3,hl⟩)
theorem look_ok (h:lookP p f x i s=.ok (bl,ns)):namesB p f i=true∧(takesP p f i).n≤s.length∧(takesP p f i).fine (s.drop (s.length - (takesP p f i).n))=true∧(∃ l,putsP p f i ((s.drop (s.length - (takesP p f i).n)).getLast?.getD 0) ((s.drop (s.length - (takesP p f i).n)).head?.getD 0)=.ok l∧bl=s.take (s.length - (takesP p f i).n)++l)∧ns=nextsP i x:=by
 unfold lookP at h
 dsimp only at h
 split at h
 · cases h
 · rename_i h1
   split at h
   · cases h
   · rename_i h2
     split at h
     · cases h
     · rename_i h3
       split at h
       · cases h
       · rename_i l hl
         split at h
         · cases h
           exact ⟨by simpa using h1,by omega,by simpa using h3,⟨l,hl,rfl⟩,rfl⟩
         · cases h
theorem last_1:(s.drop (s.length - 1)).head?.getD 0=s.getLast?.getD 0:=by
 rw [List.head?_drop,List.getLast?_eq_getElem?]
theorem last_2 (h:2≤s.length):(s.drop (s.length - 2)).head?.getD 0=(s.take (s.length - 1)).getLast?.getD 0:=by
 rw [List.head?_drop,List.getLast?_eq_getElem?,List.length_take,List.getElem?_take,if_pos (by omega)]
 congr 2
 omega
theorem field_at {k y v:Int} (hk:isKB p.ty.length k=true) (h2:2≤bareK k) (h:fieldP p k y=some v):∃ (t m:Nat) (fs:List Int),(bareK k - 2) / 2=(t:Int)∧p.ty[t]?=some fs∧y=(m:Int)∧fs[m]?=some v:=by
 have h1:=of_decide_eq_true hk
 have h3:bareK k<2+2*(p.ty.length:Int):=by
  rcases h1 with h | h | h
  · subst h;simp [bareK] at h2
  · subst h;simp [bareK] at h2
  · exact h.2
 obtain ⟨t,ht⟩ : ∃ t:Nat,(bareK k - 2) / 2=(t:Int):=⟨((bareK k - 2) / 2).toNat,by omega⟩
 obtain ⟨fs,hfs⟩ : ∃ fs,p.ty[t]?=some fs:=⟨p.ty[t]'(by omega),by simp⟩
 unfold fieldP at h
 rw [ht,Int.toNat_natCast,hfs,Option.getD_some] at h
 dsimp only at h
 split at h
 · rename_i hy
   obtain ⟨m,rfl,hm⟩:=in_nat hy
   rw [Int.toNat_natCast] at h
   exact ⟨t,m,fs,ht,hfs,rfl,h⟩
 · cases h
theorem last_two (h:1≤s.length):s++[s.getLast?.getD 0]=s.take (s.length - 1)++[s.getLast?.getD 0,s.getLast?.getD 0]:=by
 have h1:s.take (s.length - 1)++[s.getLast?.getD 0]=s:=by
  have h2:s≠[]:=fun h0=>by subst h0;simp at h
  rw [List.getLast?_eq_some_getLast h2,Option.getD_some,← List.dropLast_eq_take]
  exact List.dropLast_concat_getLast h2
 rw [show s.take (s.length - 1)++[s.getLast?.getD 0,s.getLast?.getD 0]=(s.take (s.length - 1)++[s.getLast?.getD 0])++[s.getLast?.getD 0] from by simp,h1]
theorem take0 (s l:List Int):s++l=s.take (s.length - 0)++l:=by simp
set_option maxHeartbeats 1000000 in
theorem behind_any (Y:WyAt B w (.slice a1 p.ty.length d1) (.slice a2 p.fu.length d2) (.slice a3 p.ta.length d3) (.slice a4 p.st.length d4) (.slice b1 f.lo.length e1) (.slice b2 f.re.length e2) (.slice b3 f.ar.length e3) (.slice b4 f.co.length e4) p f) (H:Hok p) (hf:FdOk p f) (P:PileAt X w E b s) (hX:∀ j,X j→B≤j∧j<w.heap.size) (hs:s.length≤1000000000000) (hk:∀ k∈s,isKB p.ty.length k=true) (h:lookP p f x i s=.ok (bl,ns)):Calls Tryz.prog 19 #[.agg #[.slice a1 p.ty.length d1,.slice a2 p.fu.length d2,.slice a3 p.ta.length d3,.slice a4 p.st.length d4,.int .i64 f.pa,.slice b1 f.lo.length e1,.slice b2 f.re.length e2,.slice b3 f.ar.length e3,.slice b4 f.co.length e4],.agg #[.int .i64 i.o,.int .i64 i.a,.int .i64 i.b],pp b] w (BfO X E bl ns w):=by
 obtain ⟨hnm,hn,hfi,⟨l,hp,rfl⟩,rfl⟩:=look_ok h
 have hlow:=low_ok (p:=p) (f:=f) (i:=i) (ks:=s.drop (s.length - (takesP p f i).n)) (by rw [List.length_drop];omega) (fun k hkk=>hk k (List.mem_of_mem_drop hkk)) hfi
 have hnt:=H.nt
 clear h hfi
 by_cases o1:i.o=1
 · have ht:(takesP p f i).n=0:=by unfold takesP;simp [o1,Must.n]
   rw [ht] at hn hp hlow ⊢
   have hq:∀ top low,putsP p f i top low=.ok [0]:=fun top low=>by unfold putsP;simp [o1]
   rw [hq] at hp
   cases hp
   exact of_bh (bh_1 Y P hX hs i o1) (fun _=>take0 _ _)
 by_cases o2:i.o=2
 · have ht:(takesP p f i).n=0:=by unfold takesP;simp [o2,Must.n]
   rw [ht] at hn hp hlow ⊢
   have hq:∀ top low,putsP p f i top low=.ok [i.a]:=fun top low=>by unfold putsP;simp [o2]
   rw [hq] at hp
   cases hp
   exact of_bh (bh_2 Y P hX hs i o2) (fun _=>take0 _ _)
 by_cases o4:i.o=4
 · have ht:(takesP p f i).n=1:=by unfold takesP;simp [o4,Must.n]
   rw [ht] at hn hp hlow ⊢
   have hq:∀ top low,putsP p f i top low=.ok []:=fun top low=>by unfold putsP;simp [o4]
   rw [hq] at hp
   cases hp
   exact of_bh (bh_4 Y P hX hs i o4 hn) (fun _=>(List.append_nil _).symm)
 by_cases o5:i.o=5
 · have ht:(takesP p f i).n=1:=by unfold takesP;simp [o5,Must.n]
   rw [ht] at hn hp hlow ⊢
   have hq:∀ top low,putsP p f i top low=.ok []:=fun top low=>by unfold putsP;simp [o5]
   rw [hq] at hp
   cases hp
   exact of_bh (bh_5 Y P hX hs i o5 hn) (fun _=>(List.append_nil _).symm)
 by_cases o10:i.o=10
 · have ht:(takesP p f i).n=1:=by unfold takesP;simp [o10,Must.n]
   rw [ht] at hn hp hlow ⊢
   have hq:∀ top low,putsP p f i top low=.ok []:=fun top low=>by unfold putsP;simp [o10]
   rw [hq] at hp
   cases hp
   exact of_bh (bh_10 Y P hX hs i o10 hn) (fun _=>(List.append_nil _).symm)
 by_cases o25:i.o=25
 · have ht:(takesP p f i).n=1:=by unfold takesP;simp [o25,Must.n]
   rw [ht] at hn hp hlow ⊢
   have hq:∀ top low,putsP p f i top low=.ok []:=fun top low=>by unfold putsP;simp [o25]
   rw [hq] at hp
   cases hp
   exact of_bh (bh_25 Y P hX hs i o25 hn) (fun _=>(List.append_nil _).symm)
 by_cases o26:i.o=26
 · have ht:(takesP p f i).n=1:=by unfold takesP;simp [o26,Must.n]
   rw [ht] at hn hp hlow ⊢
   have hq:∀ top low,putsP p f i top low=.ok []:=fun top low=>by unfold putsP;simp [o26]
   rw [hq] at hp
   cases hp
   exact of_bh (bh_26 Y P hX hs i o26 hn) (fun _=>(List.append_nil _).symm)
 by_cases o15:i.o=15
 · have ht:(takesP p f i).n=2:=by unfold takesP;simp [o15,Must.n]
   rw [ht] at hn hp hlow ⊢
   have hq:∀ top low,putsP p f i top low=.ok l→l=[]:=fun top low h=>by
    unfold putsP at h
    simp only [o15] at h
    simp at h
    cases hfd:fieldP p low i.a with
    | none=>rw [hfd] at h;cases h
    | some k =>
     rw [hfd] at h
     dsimp only at h
     split at h
     · cases h;rfl
     · cases h
   obtain rfl:=hq _ _ hp
   exact of_bh (bh_15 Y P hX hs i o15 hn) (fun _=>(List.append_nil _).symm)
 by_cases o7:i.o=7
 · have ht:(takesP p f i).n=2:=by unfold takesP;simp [o7,Must.n]
   rw [ht] at hn hp hlow ⊢
   have hq:∀ top low,putsP p f i top low=.ok [0]:=fun top low=>by unfold putsP;simp [o7]
   rw [hq] at hp
   cases hp
   exact of_bh (bh_7 Y P hX hs i o7 hn) (fun _=>rfl)
 by_cases o8:i.o=8
 · have ht:(takesP p f i).n=2:=by unfold takesP;simp [o8,Must.n]
   rw [ht] at hn hp hlow ⊢
   have hq:∀ top low,putsP p f i top low=.ok [0]:=fun top low=>by unfold putsP;simp [o8]
   rw [hq] at hp
   cases hp
   exact of_bh (bh_8 Y P hX hs i o8 hn) (fun _=>rfl)
 by_cases o18:i.o=18
 · have ht:(takesP p f i).n=1:=by unfold takesP;simp [o18,Must.n]
   rw [ht] at hn hp hlow ⊢
   have hq:∀ top low,putsP p f i top low=.ok [0]:=fun top low=>by unfold putsP;simp [o18]
   rw [hq] at hp
   cases hp
   exact of_bh (bh_18 Y P hX hs i o18 hn) (fun _=>rfl)
 by_cases o20:i.o=20
 · have ht:(takesP p f i).n=1:=by unfold takesP;simp [o20,Must.n]
   rw [ht] at hn hp hlow ⊢
   have hq:∀ top low,putsP p f i top low=.ok [0]:=fun top low=>by unfold putsP;simp [o20]
   rw [hq] at hp
   cases hp
   exact of_bh (bh_20 Y P hX hs i o20 hn) (fun _=>rfl)
 by_cases o19:i.o=19
 · have ht:(takesP p f i).n=1:=by unfold takesP;simp [o19,Must.n]
   rw [ht] at hn hp hlow ⊢
   have hq:∀ top low,putsP p f i top low=.ok [1]:=fun top low=>by unfold putsP;simp [o19]
   rw [hq] at hp
   cases hp
   exact of_bh (bh_19 Y P hX hs i o19 hn) (fun _=>rfl)
 by_cases o6:i.o=6
 · have ht:(takesP p f i).n=1:=by unfold takesP;simp [o6,Must.n]
   rw [ht] at hn hp hlow ⊢
   have hq:∀ top low,putsP p f i top low=.ok [low,low]:=fun top low=>by unfold putsP;simp [o6]
   rw [hq] at hp
   cases hp
   exact of_bh (bh_6 Y P hX hs i o6 hn) (fun _=>by rw [last_1];exact last_two hn)
 by_cases o11:i.o=11
 · have ht:(takesP p f i).n=0:=by unfold takesP;simp [o11,Must.n]
   rw [ht] at hn hp hlow ⊢
   have hin:inB i.a p.ty.length=true:=by unfold namesB at hnm;simpa [o11] using hnm
   obtain ⟨t,hta,htl⟩:=in_nat hin
   have hq:∀ top low,putsP p f i top low=.ok [2+2*i.a]:=fun top low=>by unfold putsP;simp [o11]
   rw [hq] at hp
   cases hp
   exact of_bh (bh_11 Y P hX hs i o11 hta (by omega)) (fun _=>by rw [hta];exact take0 _ _)
 by_cases o12:i.o=12
 · have ht:(takesP p f i).n=1:=by unfold takesP;simp [o12,Must.n]
   rw [ht] at hn hp hlow ⊢
   have hin:inB i.a p.ty.length=true:=by unfold namesB at hnm;simpa [o12] using hnm
   obtain ⟨t,hta,htl⟩:=in_nat hin
   have hq:∀ top low,putsP p f i top low=.ok [3+2*i.a]:=fun top low=>by unfold putsP;simp [o12]
   rw [hq] at hp
   cases hp
   exact of_bh (bh_12 Y P hX hs i o12 hn hta (by omega)) (fun _=>by rw [hta])
 by_cases o21:i.o=21
 · have ht:(takesP p f i).n=1:=by unfold takesP;simp [o21,Must.n]
   rw [ht] at hn hp hlow ⊢
   have hin:inB i.a p.ty.length=true:=by unfold namesB at hnm;simpa [o21] using hnm
   obtain ⟨t,hta,htl⟩:=in_nat hin
   have hq:∀ top low,putsP p f i top low=.ok [2+2*i.a]:=fun top low=>by unfold putsP;simp [o21]
   rw [hq] at hp
   cases hp
   exact of_bh (bh_21 Y P hX hs i o21 hn hta (by omega)) (fun _=>by rw [hta])
 by_cases o29:i.o=29
 · have ht:(takesP p f i).n=0:=by unfold takesP;simp [o29,Must.n]
   rw [ht] at hn hp hlow ⊢
   have hin:inB i.b p.ty.length=true:=by unfold namesB at hnm;simp [o29] at hnm;exact hnm.1.2
   obtain ⟨t,hta,htl⟩:=in_nat hin
   have hq:∀ top low,putsP p f i top low=.ok [3+2*i.b]:=fun top low=>by unfold putsP;simp [o29]
   rw [hq] at hp
   cases hp
   exact of_bh (bh_29 Y P hX hs i o29 hta (by omega)) (fun _=>by rw [hta];exact take0 _ _)
 by_cases o3:i.o=3
 · have ht:(takesP p f i).n=0:=by unfold takesP;simp [o3,Must.n]
   rw [ht] at hn hp hlow ⊢
   have hin:inB i.a f.lo.length=true:=by unfold namesB at hnm;simpa [o3] using hnm
   obtain ⟨t,hta,htl⟩:=in_nat hin
   obtain ⟨y,hx⟩ : ∃ y,f.lo[t]?=some y:=⟨f.lo[t],by simp⟩
   have hq:∀ top low,putsP p f i top low=.ok [(f.lo[i.a.toNat]?).getD 0]:=fun top low=>by unfold putsP;simp [o3]
   rw [hq] at hp
   cases hp
   exact of_bh (bh_3 Y P hX hs i o3 hta hx) (fun _=>by rw [hta,Int.toNat_natCast,hx,Option.getD_some];exact take0 _ _)
 by_cases o13:i.o=13
 · have ht:(takesP p f i).n=0:=by unfold takesP;simp [o13,Must.n]
   rw [ht] at hn hp hlow ⊢
   have hin:inB i.a f.ar.length=true:=by unfold namesB at hnm;simpa [o13] using hnm
   obtain ⟨t,hta,htl⟩:=in_nat hin
   obtain ⟨y,hx0⟩ : ∃ y,f.ar[t]?=some y:=⟨f.ar[t],by simp⟩
   obtain ⟨u,rfl,hul⟩:=in_nat (hf.ar _ (List.mem_of_getElem? hx0))
   have hx:=hx0
   have hq:∀ top low,putsP p f i top low=.ok [1048576+2+2*(f.ar[i.a.toNat]?).getD 0]:=fun top low=>by unfold putsP;simp [o13]
   rw [hq] at hp
   cases hp
   exact of_bh (bh_13 Y P hX hs i o13 hta hx (by omega)) (fun _=>by rw [hta,Int.toNat_natCast,hx,Option.getD_some];exact take0 _ _)
 by_cases o14:i.o=14
 · have ht:(takesP p f i).n=1:=by unfold takesP;simp [o14,Must.n]
   rw [ht] at hn hp hlow ⊢
   obtain ⟨k1,k2⟩:=hlow.1 (.inl o14)
   rw [last_1] at hp k1 k2
   have k3:2≤bareK (s.getLast?.getD 0):=(of_decide_eq_true k2).1
   have hq:∀ top low,putsP p f i top low=.ok l→∃ k,fieldP p low i.a=some k∧l=[k]:=fun top low h=>by
    unfold putsP at h
    simp only [o14] at h
    simp at h
    cases hfd:fieldP p low i.a with
    | none=>rw [hfd] at h;cases h
    | some k=>rw [hfd] at h;cases h;exact ⟨k,rfl,rfl⟩
   obtain ⟨y,hfd,rfl⟩:=hq _ _ hp
   obtain ⟨t,m,fs,h1,h2,h3,h4⟩:=field_at k1 k3 hfd
   exact of_bh (bh_14 Y P hX hs i o14 hn hnt k1 h1 k3 h2 h3 h4) (fun _=>rfl)
 by_cases o16:i.o=16
 · have ht:(takesP p f i).n=1:=by unfold takesP;simp [o16,Must.n]
   rw [ht] at hn hp hlow ⊢
   have hin:inB i.b p.ty.length=true:=by unfold namesB at hnm;simpa [o16] using hnm
   obtain ⟨t,hta,htl⟩:=in_nat hin
   obtain ⟨k1,k2⟩:=hlow.1 (.inr (.inr o16))
   rw [last_1] at hp k1 k2
   have hq:∀ top low,putsP p f i top low=.ok l→l=[locK low+2+2*i.b]:=fun top low h=>by
    unfold putsP at h
    simp only [o16] at h
    simp at h
    cases hfd:fieldP p low i.a with
    | none=>rw [hfd] at h;cases h
    | some k =>
     rw [hfd] at h
     dsimp only at h
     split at h
     · cases h;rfl
     · cases h
   obtain rfl:=hq _ _ hp
   exact of_bh (bh_16 Y P hX hs i o16 hn hnt k1 hta (by omega)) (fun _=>by rw [hta])
 by_cases o17:i.o=17
 · have ht:(takesP p f i).n=2:=by unfold takesP;simp [o17,Must.n]
   rw [ht] at hn hp hlow ⊢
   obtain ⟨k1,k2⟩:=hlow.2.1 o17
   rw [last_2 hn] at hp k1 k2
   obtain ⟨low,hlw⟩ : ∃ q,(s.take (s.length - 1)).getLast?.getD 0=q:=⟨_,rfl⟩
   rw [hlw] at hp k1 k2
   have hq:∀ top low,putsP p f i top low=.ok [low - 1]:=fun top low=>by unfold putsP;simp [o17]
   rw [hq] at hp
   cases hp
   have h1:=of_decide_eq_true k1
   have h2:=of_decide_eq_true k2
   exact of_bh (bh_17 Y P hX hs i o17 hn hlw (by
     rcases h1 with h | h | h
     · omega
     · omega
     · unfold bareK at h h2
       split at h <;> omega)) (fun _=>by rw [show low - 3+2=low - 1 by omega])
 by_cases o22:i.o=22
 · have hin:inB i.a p.fu.length=true:=by unfold namesB at hnm;simpa [o22] using hnm
   obtain ⟨m,hma,hml⟩:=in_nat hin
   obtain ⟨g,hg⟩ : ∃ g,p.fu[m]?=some g:=⟨p.fu[m],by simp⟩
   have hgo:=H.fu g (List.mem_of_getElem? hg)
   obtain ⟨q,hq⟩ : ∃ q:Nat,g.pa=(q:Int):=⟨g.pa.toNat,by have:=hgo.pa;omega⟩
   have ht:(takesP p f i).n=q:=by
    unfold takesP
    simp only [o22]
    simp only [hma,call_at hg,Must.n,parK,hq,Int.toNat_natCast]
    simp
    have:=hgo.pa
    omega
   rw [ht] at hn hp ⊢
   have hu:∀ top low,putsP p f i top low=.ok g.re:=fun top low=>by unfold putsP;simp [o22,hma,call_at hg]
   rw [hu] at hp
   cases hp
   exact of_bh (bh_22 Y P hX hs i o22 hma hg hq hn hgo.nr) (fun _=>rfl)
 by_cases o23:i.o=23
 · have hin:inB i.a p.ta.length=true:=by unfold namesB at hnm;simpa [o23] using hnm
   obtain ⟨t,hta,htl⟩:=in_nat hin
   obtain ⟨tb,m0,g,h3,h4,h5,h6⟩:=table_at H htl
   have hgo:=H.fu g (List.mem_of_getElem? h5)
   obtain ⟨q,hq⟩ : ∃ q:Nat,g.pa=(q:Int):=⟨g.pa.toNat,by have:=hgo.pa;omega⟩
   have ht:(takesP p f i).n=q+1:=by
    unfold takesP
    simp only [o23]
    simp only [hta,h6,Must.n,parK,hq,Int.toNat_natCast]
    simp
    have:=hgo.pa
    omega
   rw [ht] at hn hp ⊢
   have hu:∀ top low,putsP p f i top low=.ok g.re:=fun top low=>by unfold putsP;simp [o23,hta,h6]
   rw [hu] at hp
   cases hp
   exact of_bh (bh_23 Y P hX hs i o23 (by omega) hta h3 h4 h5 hq hn hgo.nr) (fun _=>by
    rw [List.take_take,List.length_take]
    congr 2
    omega)
 have ho:i.o≠1∧i.o≠2∧i.o≠3∧i.o≠4∧i.o≠5∧i.o≠10∧i.o≠25∧i.o≠26∧i.o≠6∧i.o≠7∧i.o≠8∧i.o≠11∧i.o≠12∧i.o≠13∧i.o≠14∧i.o≠15∧i.o≠16∧i.o≠17∧i.o≠18∧i.o≠20∧i.o≠19∧i.o≠21∧i.o≠22∧i.o≠23∧i.o≠29:=by omega
 refine of_bh (bh_0 Y P hX hs i ho) (fun hne=>?_)
 by_cases hr:i.o=24∨i.o=27∨i.o=28
 · exfalso
   apply hne
   unfold nextsP
   rw [if_neg (by omega),if_neg (by omega),if_pos hr]
 · have ht:(takesP p f i).n=0:=by
    have h1:takesP p f i=.each []:=by
     unfold takesP
     repeat rw [if_neg (by omega)]
    rw [h1]
    rfl
   have hu:∀ top low,putsP p f i top low=.ok []:=fun top low=>by
    unfold putsP
    repeat rw [if_neg (by omega)]
   rw [ht] at hp ⊢
   rw [hu] at hp
   cases hp
   simp
end
end Go.Proofs.YtkdojpnihinpbaaGreatDoor
