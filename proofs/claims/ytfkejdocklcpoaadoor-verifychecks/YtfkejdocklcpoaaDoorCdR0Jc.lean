/- Nothing of its own here. -/
import Derived.Test.YtfkejdocklcpoaaDoorCdMJc
import Derived.Test.YtfkejdocklcpoaaDoorVfKJc

namespace Go.Proofs.YtfkejdocklcpoaaDoor
open Go.RowKit
section
variable {w:World} {B B' : Nat}
end
end Go.Proofs.YtfkejdocklcpoaaDoor

namespace Go.Proofs.YtfkejdocklcpoaaDoor
open Go.RowKit
theorem SlAt.get {α:Type} {k B:Nat} {P:World→List Value→α→Prop} {w:World} {a:Option Addr} {n c:Nat} {l:List α} (h:SlAt k P B w (.slice a n c) l) {j:Nat} {x:α} (hx:l[j]?=some x):∃ g o cs,a=some ⟨g,o,none⟩∧g<B∧(∀ r u,cs[r]?=some u→w.cell? ⟨g,o+j*k+r,none⟩=some u)∧P w cs x:=by
 obtain ⟨ao,cp,hv,_,hel⟩:=h
 cases hv
 exact hel j x hx
theorem below_of_dr {w w' : World} (h:Below w.drew.heap.size w.drew w'):Below w.heap.size w w':=⟨h.os,h.tape,h.output,h.size,h.block⟩
section
variable {w:World} {B:Nat}
end
end Go.Proofs.YtfkejdocklcpoaaDoor

namespace Go.Proofs.YtfkejdocklcpoaaDoor
open Go.RowKit
section
variable {X:Nat→Prop} {w:World} {E b b' : Nat} {l l' ks ls:List Int} {v u:Value}
theorem Kp.drew (X:Nat→Prop) (w:World):Kp X w w.drew:=⟨rfl,rfl,rfl,Nat.le_refl _,fun _ _ _=>rfl⟩
theorem Kp.drewN (X:Nat→Prop) (w:World) (q:Nat):Kp X w (w.drewN q):=⟨rfl,rfl,rfl,Nat.le_refl _,fun _ _ _=>rfl⟩
def WoR (X:Nat→Prop) (w:World) (E:Nat) (t:List Int) (a n:Value):Prop:=∃ (b m:Nat) (l:List Int),a=pp b∧n=.int .i64 m∧PileAt X w E b l∧m≤l.length∧l.length≤4000000000000∧l.take (l.length - m)=t
theorem wrap_nat {n:Nat} (h:n≤4000000000000):IntKind.i64.wrap (n:Int)=(n:Int):=by
 have h1:(n:Int)≤4000000000000:=by omega
 have h2:(0:Int)≤(n:Int):=by omega
 clear h
 go_arith
theorem take_less {l ks:List Int} {m:Nat} (h:ks.length≤m):(l++ks).take ((l++ks).length - m)=l.take (l.length - (m - ks.length)):=by
 rw [List.length_append,List.take_append_of_le_length (by omega)]
 congr 1
 omega
theorem take_more {l ks:List Int} {m:Nat} (h:m≤ks.length):(l++ks).take ((l++ks).length - m)=l++ks.take (ks.length - m):=by
 rw [List.length_append,show l.length+ks.length - m=l.length+(ks.length - m) by omega,List.take_length_add_append]
set_option maxRecDepth 100000 in
set_option maxHeartbeats 1000000 in
theorem without_any (R:PileAt X w E b l) {n:Nat} (hn:n≤l.length) (hX:∀ j,X j→j<w.heap.size) (hd:l.length≤4000000000000) :
    Calls Tryd.prog 72 #[pp b,.int .i64 n] w fun e w'=>∃ b',e=.returned (pp b')∧PileAt X w' E b' (l.take (l.length - n))∧Below w.heap.size w w':=by
  have HR:=hide R
  have HX:=hide hX
  have HN:=hide hn
  have HD:=hide hd
  clear R hX hn
  have hnb:(n:Int)≤4000000000000:=by have:=HN.out;omega
  generalize ht:l.take (l.length - n)=t
  have HT:=hide ht
  clear ht
  go_enter Tryd.func72,Tryd.ntmps72
  go_wp2
  go_loop [0,1] (fun a n=>WoR X w E t a n) (fun _ n=>(intOf n).toNat)
  case atStart=>exact ⟨b,n,l,rfl,rfl,HR.out,HN.out,HD.out,HT.out⟩
  case round =>
   obtain ⟨b1,m,l1,rfl,rfl,R1,hm,hd1,ht1⟩:=hrel
   have HR1:=hide R1
   have HT1:=hide ht1
   have hmb:(m:Int)≤4000000000000:=by omega
   clear ht1
   cases R1 with
   | nil h1 _ =>
    have c0:w.cell? ⟨E,0,none⟩=some (.slice none 0 0):=cell_of h1 rfl
    obtain rfl:m=0:=by simpa using hm
    clear h1 hm
    go_wp2
    go_ret
    exact ⟨E,rfl,by rw [← HT1.out];exact HR1.out,Below.refl _ _⟩
   | @cons _ b0 l0 ks a c h1 h2 h3 h4 h5 =>
    have c0:w.cell? ⟨b1,0,none⟩=some (.slice a ks.length c):=cell_of h1 rfl
    have c1:w.cell? ⟨b1,1,none⟩=some (pp b0):=cell_of h1 rfl
    have HB1:=hide (lt_of_block h1)
    have H4:=hide h4
    have H5:=hide h5
    have H3:=hide h3
    have k3:(0:Int)<(ks.length:Int):=by omega
    rw [List.length_append] at hm hd1
    by_cases hge:ks.length≤m
    · have d1:decide ((ks.length:Int)≤(m:Int))=true:=by simp;omega
      have d2:decide (ks.length≤m)=true:=by simpa using hge
      have d3:decide ((0:Int)<(m:Int))=true:=by simp;omega
      have d4:decide (0<m)=true:=by simp;omega
      have HGE:=hide hge
      have g1:(ks.length:Int)≤(m:Int):=by omega
      have HS:=hide (show ((m:Int) - (ks.length:Int))=((m - ks.length:Nat):Int) by omega)
      clear h1 h2 h3 h4 h5 hge
      generalize hkl:ks.length=kl at *
      have HKL:=hide hkl
      clear hkl
      go_wp2
      go_round
      case rel =>
       refine ⟨b0,m - kl,l0,rfl,by rw [HS.out],H5.out,by omega,by omega,?_⟩
       rw [← HT1.out,take_less (by rw [HKL.out];exact HGE.out),HKL.out]
      case measure=>rw [HS.out];simp [intOf];omega
    · have d1:decide ((ks.length:Int)≤(m:Int))=false:=by simp;omega
      have d2:decide (ks.length≤m)=false:=by simpa using hge
      have HGE:=hide (show m≤ks.length by omega)
      by_cases h0:m=0
      · subst h0
        have d3:decide ((ks.length:Int)≤0)=false:=by simpa using d1
        clear h1 h2 h3 h4 h5 hge d1 d2
        generalize hkl:ks.length=kl at *
        clear hkl
        go_wp2
        all_goals (
          go_ret
          exact ⟨b1,rfl,by rw [← HT1.out,Nat.sub_zero,List.take_length];exact HR1.out,Below.refl _ _⟩)
      · have q0:((m:Int) == 0)=false:=beq_eq_false_iff_ne.mpr (by omega)
        have HC:=hide (with_any (w:=w.drew) (H5.out.keep (Kp.drew X w)) ((H4.out.take (m:=ks.length - m) (by omega)).keep (Kp.drew X w)) HX.out (by rw [List.length_take];omega))
        have HTM:=hide (show t=l0++ks.take (ks.length - m) by rw [← HT1.out,take_more HGE.out])
        have hcap:ks.length≤c:=by
         obtain ⟨_,_,hv,hcp,_⟩:=H4.out
         cases hv
         exact hcp
        obtain ⟨d,hd2⟩ : ∃ d,ks.length - m=d:=⟨_,rfl⟩
        have hs1:(ks.length:Int) - (m:Int)=(d:Int):=by omega
        have hs2:IntKind.i64.wrap (d:Int)=(d:Int):=wrap_nat (by omega)
        have e1:(d:Int)≤(c:Int):=by omega
        have e2:d≤c:=by omega
        have e3:(0:Int)≤(d:Int):=by omega
        have hlt1:=HB1.out
        rw [hd2] at HC HTM
        clear h1 h2 h3 h4 h5 hge hm hd1 hd2 hmb k3
        generalize ks.length=kl at *
        go_wp2_with fail
        go_region_held3 (fun w'=>w'.cell? ⟨b1,0,none⟩=some (.slice a kl c)∧w'.cell? ⟨b1,1,none⟩=some (pp b0)) (first | go_keep | exact ⟨(hb3.cell (p:=⟨b1,0,none⟩) hlt1).trans c0,(hb3.cell (p:=⟨b1,1,none⟩) hlt1).trans c1⟩)
          ((go_at_call 73;refine HC.out.mono ?_;rintro e w3 ⟨b3,rfl,hp3,hb3⟩))
        all_goals (
          go_wp2
          go_ret
          exact ⟨b3,rfl,by rw [HTM.out];exact hp3,below_of_dr hb3⟩)
end
end Go.Proofs.YtfkejdocklcpoaaDoor

namespace Go.Proofs.YtfkejdocklcpoaaDoor
open Go.RowKit Go.Shelf
attribute [local go_sem] Oper.semAt_some
section
variable {w:World}
theorem backward_in {F:Fence} (hF:F.fn 57) (hro:F.round=none) {m:Nat} (a:Option Addr) (n c:Nat):CallsIn F m Tryd.prog 57 #[.slice a n c] w fun e w'=>e=.returned (.func (.func 76) #[] #[.pointer (some ⟨w.heap.size,0,none⟩)])∧w' = w.alloc (.cells #[.slice a n c] 44):=by
 refine callsIn_of_wp Tryd.func57 rfl hF ?_ hro
 simp only [Tryd.ntmps57,List.size_toArray,List.length_cons,List.length_nil,Nat.reduceAdd,Nat.reduceSub,Array.replicate_succ,Array.replicate_zero,List.push_toArray,List.append_toArray,List.nil_append,List.cons_append]
 gi_wp2
 go_ret
 exact ⟨rfl,rfl⟩
theorem down_in {F:Fence} (hF:F.fn 40) (hro:F.round=none) {m:Nat} (b n:Nat):CallsIn F m Tryd.prog 40 #[pp b,.int .i64 n] w fun e w'=>e=.returned (.func (.func 56) #[] #[.pointer (some ⟨w.heap.size+1,0,none⟩),.pointer (some ⟨w.heap.size,0,none⟩)])∧w' = (w.alloc (.cells #[pp b] 69)).alloc (.cells #[.int .i64 n] 3):=by
 refine callsIn_of_wp Tryd.func40 rfl hF ?_ hro
 simp only [Tryd.ntmps40,List.size_toArray,List.length_cons,List.length_nil,Nat.reduceAdd,Nat.reduceSub,Array.replicate_succ,Array.replicate_zero,List.push_toArray,List.append_toArray,List.nil_append,List.cons_append]
 gi_wp2
 go_ret
 exact ⟨rfl,rfl⟩
def YR (J:World→Prop) (Jx:World→Prop) (Jp:List PanicEntry→World→Prop) (e:Ending) (W:World):Prop:=(e=.returned (.bool true)∧J W)∨(e=.returned (.bool false)∧Jx W)∨∃ ch,e=.panicked ch∧Jp ch W
def BkR (J:Nat→World→Prop) (N:Nat) (i:Value) (wr:World):Prop:=∃ k:Nat,i=.int .i64 ((N:Int) - 1 - (k:Int))∧k≤N∧J k wr
set_option maxHeartbeats 1000000 in
theorem back1_in {F:Fence} (hF:F.fn 76) (hro:F.round=none) (hdp:F.depth=none) {n:Nat} {J:Nat→World→Prop} {Jx:World→Prop} {Jp:List PanicEntry→World→Prop} {l c:Nat} {a:Option Addr} {cap:Nat} {ks:List Int} (hl:ks.length≤4000000000000)
    (hR:∀ k W,J k W→W.cell? ⟨c,0,none⟩=some (.slice a ks.length cap)∧∀ j x,ks[j]?=some x→∃ g o,a=some ⟨g,o,none⟩∧W.cell? ⟨g,o+j,none⟩=some (.int .i64 x))
    (hY:∀ k W,J k W→k<ks.length→∀ x,ks[ks.length - 1 - k]?=some x→YieldAt F (n - 1) Tryd.prog l #[.int .i64 ((ks.length - 1 - k:Nat):Int),.int .i64 x] W (YR (J (k+1)) Jx Jp))
    (W:World) (h0:J 0 W) :
    CallsIn F n Tryd.prog 76 #[.func (.yield l) #[] #[],.pointer (some ⟨c,0,none⟩)] W fun e W'=>(∃ v,e=.returned v∧(J ks.length W'∨Jx W'))∨∃ ch,e=.panicked ch∧Jp ch W':=by
  have HR:=hide hR
  have HY:=hide hY
  obtain ⟨c0,_⟩:=hR 0 W h0
  have hlb:(ks.length:Int)≤4000000000000:=by omega
  have HL:=hide hl
  clear hR hY hl
  refine callsIn_of_wp Tryd.func76 rfl hF ?_ hro
  simp only [Tryd.ntmps76,List.size_toArray,List.length_cons,List.length_nil,Nat.reduceAdd,Nat.reduceSub,Array.replicate_succ,Array.replicate_zero,List.push_toArray,List.append_toArray,List.nil_append,List.cons_append]
  gi_wp2
  gi_loopw [3] (fun i wr=>BkR J ks.length i wr) (fun i _=>(intOf i+1).toNat)
  case atStart=>exact ⟨0,by simp,Nat.zero_le _,h0⟩
  case round =>
   obtain ⟨k,rfl,hk,hJ⟩:=hrel
   have HJ:=hide hJ
   obtain ⟨c0',hcs⟩:=HR.out k wr hJ
   by_cases hlt:k<ks.length
   · obtain ⟨t,ht⟩ : ∃ t,ks.length - 1 - k=t:=⟨_,rfl⟩
     have htl:t<ks.length:=by omega
     obtain ⟨x,hx⟩ : ∃ x,ks[t]?=some x:=⟨ks[t],by simp [htl]⟩
     obtain ⟨g,o,rfl,hcx⟩:=hcs t x hx
     obtain ⟨fn,tmps,assign,body,hy,hRd⟩:=HY.out k wr hJ hlt x (by rw [ht];exact hx)
     rw [ht] at hy
     have HRd:=hide hRd
     have hti:(ks.length:Int) - 1 - (k:Int)=(t:Int):=by omega
     have ht1:(t:Int)<(ks.length:Int):=by omega
     have ht2:(0:Int)≤(t:Int):=by omega
     have HK:=hide hlt
     have HT:=hide (show ((ks.length:Int) - 1 - ((k+1:Nat):Int))=(t:Int) - 1 by omega)
     rw [hti]
     clear hcs hRd hJ hx hlt hk ht c0 hti
     generalize hn:ks.length=N at *
     have HN:=hide hn
     clear hn
     gi_wp2
     refine HRd.out.mono ?_
     rintro e W3 (⟨rfl,hJ3⟩ | ⟨rfl,hJx3⟩ | ⟨ch,rfl,hJp3⟩)
     · have HJ3:=hide hJ3
       clear hJ3
       gi_wp2
       go_roundw
       case rel=>exact ⟨k+1,by rw [HT.out],HK.out,HJ3.out⟩
       case measure=>rw [intOf_int,intOf_int];omega
     · have HJ3:=hide hJx3
       clear hJx3
       gi_wp2
       refine bodyPost_ret (results_none rfl _ _ _) rfl ?_
       exact .inl ⟨_,rfl,.inr HJ3.out⟩
     · exact ⟨rfl,.inr ⟨ch,rfl,hJp3⟩⟩
   · obtain rfl:k=ks.length:=by omega
     have hti:(ks.length:Int) - 1 - (ks.length:Int) = -1:=by omega
     rw [hti]
     clear hcs hJ hlt hk c0 hti
     generalize hn:ks.length=N at *
     gi_wp2
     go_end0
     exact .inl ⟨_,rfl,.inl (hn ▸ HJ.out)⟩
end
end Go.Proofs.YtfkejdocklcpoaaDoor
