/- What kinds must be: the closures as they are made, and what they owe. -/
import Derived.Test.YtkdojpnihinpbaaGreatDoorVfTkJo
import Derived.Shelf.Slices.Clone
namespace Go.Proofs.YtkdojpnihinpbaaGreatDoor
open Go.RowKit
section
variable {w w' : World} {n:Nat}
theorem IsAt.on {X:Nat→Prop} {W0 W:World} {v:Value} {ks:List Int} (R:IsAt X W0 v ks) (h:∀ j,j<W0.heap.size→W.heap[j]?=W0.heap[j]?):IsAt X W v ks:=by
 obtain ⟨ao,cap,h1,h2,h3,h4⟩:=R
 refine ⟨ao,cap,h1,h2,h3,fun j k hk=>?_⟩
 obtain ⟨g,o,e1,e2,e3,e4⟩:=h4 j k hk
 have e5:W.cell? ⟨g,o+j,none⟩=some (.int .i64 k):=by rw [World.cell?_of_block (a:=⟨g,o+j,none⟩) (h g e2)];exact e4
 exact ⟨g,o,e1,World.block_lt_of_cell? W ⟨g,o+j,none⟩ e5,e3,e5⟩
def FCl (n:Nat) (mu:Must) (f:Nat) (caps:Array Value) (D:Nat) (W:World):Prop:=∀ (m:Nat) (ks:List Int),ks.length=mu.n→(∀ k∈ks,isKB n k=true)→∃ (Z:Nat→Prop) (U:Nat→World→Prop),(∀ j,Z j→D≤j∧j<W.heap.size)∧FiC m W.heap.size Z f caps mu ks U∧U 0 W
def TksO (n:Nat) (mu:Must) (w:World) (e:Ending) (W:World):Prop:=∃ f caps,e=.returned (.tuple #[.int .i64 (mu.n:Int),.func (.func f) #[] caps])∧FCl n mu f caps w.heap.size W∧Below w.heap.size w W
theorem fcl_fit {os:List Int} {a:Option Addr} {cap c D:Nat} {W:World} (hn:n≤1024) (ho:∀ o∈os,isKB n o=true) (hl:os.length≤4000000000000) (hc:W.cell? ⟨c,0,none⟩=some (.slice a os.length cap)) (K:IsAt (fun _=>False) W (.slice a os.length cap) os):FCl n (.fit os) 97 #[.pointer (some ⟨c,0,none⟩)] D W:=by
 intro m ks hks _
 refine ⟨fun _=>False,fun _ W'=>∀ j,j<W.heap.size→W'.heap[j]?=W.heap[j]?,fun _ h=>h.elim,⟨FX_fn (by decide),enters_of Tryz.func97 (by kernel_rfl) rfl,hks.symm,fun _ h=>h.elim,fun k W1 W2 h1 h2 j hj=>(h2 j hj).trans (h1 j hj),fun k W1 hU hk x hx=>?_⟩,fun _ _=>rfl⟩
 have hi:ks.length - 1 - k<os.length:=by
  have:ks.length=os.length:=hks
  omega
 obtain ⟨o,ho1⟩ : ∃ o,os[ks.length - 1 - k]?=some o:=⟨os[ks.length - 1 - k],by simp [hi]⟩
 have hc1:W1.cell? ⟨c,0,none⟩=some (.slice a os.length cap):=by rw [World.cell?_of_block (a:=⟨c,0,none⟩) (hU c (World.block_lt_of_cell? W _ hc))];exact hc
 refine CallsIn.mono (fitting1_in (w:=W1) (X:=fun _=>False) hn hc1 (K.on hU) ho1 (ho o (List.mem_of_getElem? ho1)) hl) ?_
 rintro e W2 ⟨rfl,rfl⟩
 refine ⟨?_,hU,Kp.refl _ _⟩
 show _=Ending.returned (.bool (fitB x ((os[ks.length - 1 - k]?).getD 0)))
 rw [ho1]
 rfl
def EaC (n:Nat) (W0:World) (v:Value) (q:Int→Bool):Prop:=∃ (f:Nat) (caps:Array Value),v=.func (.func f) #[] caps∧FX.fn f∧(∀ args w,(callFunc f args).run Tryz.prog w=.ok (.enter f args) w)∧∀ (m:Nat) (W:World) (x:Int),(∀ j,j<W0.heap.size→W.heap[j]?=W0.heap[j]?)→isKB n x=true→CallsIn FX m Tryz.prog f (#[.int .i64 x]++caps) W fun e w'=>e=.returned (.bool (q x))∧Below W.heap.size W w'
theorem EaC.keep {W0 W:World} {v:Value} {q:Int→Bool} (h:EaC n W0 v q) (hb:Below W0.heap.size W0 W):EaC n W v q:=by
 obtain ⟨f,caps,h1,h2,h3,h4⟩:=h
 exact ⟨f,caps,h1,h2,h3,fun m W' x hW hx=>h4 m W' x (fun j hj=>(hW j (Nat.lt_of_lt_of_le hj hb.size)).trans (hb.block j hj)) hx⟩
theorem eac_any (W:World):EaC n W (.func (.func 88) #[] #[]) anyB:=⟨_,_,rfl,FX_fn (by decide),enters_of Tryz.func88 (by kernel_rfl) rfl,fun m W' x _ _=>CallsIn.mono (anything_in x) (by rintro e w' ⟨rfl,rfl⟩;exact ⟨rfl,Below.refl _ _⟩)⟩
theorem eac_of {W:World} {c:Nat} {f:Int} (hn:n≤1024) (hf:f=2∨f=3) (hc:W.cell? ⟨c,0,none⟩=some (.int .i64 f)):EaC n W (.func (.func 101) #[] #[.pointer (some ⟨c,0,none⟩)]) (ofB f):=⟨_,_,rfl,FX_fn (by decide),enters_of Tryz.func101 (by kernel_rfl) rfl,fun m W' x hW hx=>CallsIn.mono (of1_in (w:=W') hn hx (by rw [World.cell?_of_block (a:=⟨c,0,none⟩) (hW c (World.block_lt_of_cell? W _ hc))];exact hc) hf) (by rintro e w' ⟨rfl,h⟩;exact ⟨rfl,h⟩)⟩
theorem eac_ex {W:World} {c:Nat} {k:Int} (hc:W.cell? ⟨c,0,none⟩=some (.int .i64 k)):EaC n W (.func (.func 103) #[] #[.pointer (some ⟨c,0,none⟩)]) (exB k):=⟨_,_,rfl,FX_fn (by decide),enters_of Tryz.func103 (by kernel_rfl) rfl,fun m W' x hW hx=>CallsIn.mono (exactly1_in (w:=W') x k (by rw [World.cell?_of_block (a:=⟨c,0,none⟩) (hW c (World.block_lt_of_cell? W _ hc))];exact hc)) (by rintro e w' ⟨rfl,rfl⟩;exact ⟨rfl,Below.refl _ _⟩)⟩
theorem eac_box (W:World) (hn:n≤1024):EaC n W (.func (.func 92) #[] #[]) boxB:=⟨_,_,rfl,FX_fn (by decide),enters_of Tryz.func92 (by kernel_rfl) rfl,fun m W' x _ hx=>CallsIn.mono (boxable_in (w:=W') hn hx) (by rintro e w' ⟨rfl,h⟩;exact ⟨rfl,h⟩)⟩
theorem ofB_ptr:ofB 2=ptrB:=by funext k;unfold ofB ptrB;rfl
theorem ofB_arr:ofB 3=arrB:=by funext k;unfold ofB arrB;rfl
theorem fcl_each {ps:List (Int→Bool)} {g c cap D:Nat} {W:World} (hl:ps.length≤2) (hc:W.cell? ⟨c,0,none⟩=some (.slice (some ⟨g,0,none⟩) ps.length cap)) (hx:∀ i q,ps[i]?=some q→∃ v,W.cell? ⟨g,0+i,none⟩=some v∧EaC n W v q):FCl n (.each ps) 99 #[.pointer (some ⟨c,0,none⟩)] D W:=by
 intro m ks hks hkk
 refine ⟨fun _=>False,fun _ W'=>∀ j,j<W.heap.size→W'.heap[j]?=W.heap[j]?,fun _ h=>h.elim,⟨FX_fn (by decide),enters_of Tryz.func99 (by kernel_rfl) rfl,hks.symm,fun _ h=>h.elim,fun k W1 W2 h1 h2 j hj=>(h2 j hj).trans (h1 j hj),fun k W1 hU hk x hxk=>?_⟩,fun _ _=>rfl⟩
 have hi:ks.length - 1 - k<ps.length:=by
  have:ks.length=ps.length:=hks
  omega
 obtain ⟨q,hq⟩ : ∃ q,ps[ks.length - 1 - k]?=some q:=⟨ps[ks.length - 1 - k],by simp [hi]⟩
 obtain ⟨v,hv,f,caps,rfl,h2,h3,h4⟩:=hx _ q hq
 have hon:∀ {b o:Nat} {u:Value},W.cell? ⟨b,o,none⟩=some u→W1.cell? ⟨b,o,none⟩=some u:=fun {b o u} h=>by rw [World.cell?_of_block (a:=⟨b,o,none⟩) (hU b (World.block_lt_of_cell? W _ h))];exact h
 refine CallsIn.mono (these1_in (w:=W1) h2 (hon hc) hi hl (hon hv) h3 (h4 _ W1 x hU (hkk x (List.mem_of_getElem? hxk)))) ?_
 rintro e W2 ⟨rfl,hb⟩
 refine ⟨?_,fun j hj=>?_,Kp.of_below hb⟩
 · show _=Ending.returned (.bool (((ps[ks.length - 1 - k]?).getD anyB) x))
   rw [hq]
   rfl
 · have hlt:j<W1.heap.size:=by
    have h1:=hU j hj
    rw [Array.getElem?_eq_getElem hj] at h1
    rcases Nat.lt_or_ge j W1.heap.size with h | h
    · exact h
    · rw [Array.getElem?_eq_none h] at h1;cases h1
   exact (hb.block j hlt).trans (hU j hj)
theorem fcl_none {c D:Nat} {W:World}:FCl n (.each []) 99 #[.pointer (some ⟨c,0,none⟩)] D W:=by
 intro m ks hks _
 refine ⟨fun _=>False,fun _ _=>True,fun _ h=>h.elim,⟨FX_fn (by decide),enters_of Tryz.func99 (by kernel_rfl) rfl,hks.symm,fun _ h=>h.elim,fun _ _ _ _ _=>trivial,fun k W1 hU hk x hxk=>?_⟩,trivial⟩
 have:ks.length=0:=hks
 omega
theorem fcl_alike {u D:Nat} {W:World} (hn:n≤1024) (hu:W.heap[u]?=some (.cells #[.int .i64 0] 3 (0,0))) (hD:D≤u):FCl n .alike 100 #[.pointer (some ⟨u,0,none⟩)] D W:=by
 intro m ks hks hkk
 have hl:ks.length=2:=hks
 obtain ⟨y,x,rfl⟩ : ∃ y x,ks=[y,x]:=by
  match ks,hl with
  | [y,x],_=>exact ⟨y,x,rfl⟩
 have hy:=hkk y (by simp)
 have hx:=hkk x (by simp)
 refine ⟨fun j=>j=u,fun k W'=>W'.heap[u]?=some (.cells #[.int .i64 (if k=0 then 0 else x)] 3 (0,0)),fun j hj=>by subst hj;exact ⟨hD,lt_of_block hu⟩,⟨FX_fn (by decide),enters_of Tryz.func100 (by kernel_rfl) rfl,rfl,fun j hj=>by subst hj;exact lt_of_block hu,fun k W1 W2 h1 h2=>(h2 u (lt_of_block hu)).trans h1,fun k W1 hU hk z hz=>?_⟩,hu⟩
 have hk2:k<2:=hk
 rcases Nat.lt_or_ge k 1 with h0 | h0
 · obtain rfl:k=0:=by omega
   obtain rfl:x=z:=by simpa using hz
   refine CallsIn.mono (alike1_up (w:=W1) (n:=n) (x:=0) hn hx hU) ?_
   rintro e W2 ⟨rfl,rfl⟩
   refine ⟨rfl,heap_setCell_same _ _ 0 _ hU,⟨rfl,rfl,rfl,by simp,fun j _ hj=>Below.heap_setCell _ _ _ j hj⟩⟩
 · obtain rfl:k=1:=by omega
   obtain rfl:y=z:=by simpa using hz
   refine CallsIn.mono (alike1_low (w:=W1) (n:=n) (x:=x) hn hy hx (cell_of hU rfl)) ?_
   rintro e W2 ⟨rfl,rfl⟩
   exact ⟨rfl,hU,Kp.refl _ _⟩
theorem fitting_any (w:World) (a:Option Addr) (l c:Nat):Calls Tryz.prog 86 #[.slice a l c] w fun e w'=>e=.returned (.tuple #[.int .i64 l,.func (.func 97) #[] #[.pointer (some ⟨w.heap.size,0,none⟩)]])∧w' = w.alloc (.cells #[.slice a l c] 37):=by
 go_enter Tryz.func86,Tryz.ntmps86
 go_wp2
 go_ret2
 exact ⟨rfl,rfl⟩
theorem these_any (w:World) (a:Option Addr) (l c:Nat):Calls Tryz.prog 87 #[.slice a l c] w fun e w'=>e=.returned (.tuple #[.int .i64 l,.func (.func 99) #[] #[.pointer (some ⟨w.heap.size,0,none⟩)]])∧w' = w.alloc (.cells #[.slice a l c] 146):=by
 go_enter Tryz.func87,Tryz.ntmps87
 go_wp2
 go_ret2
 exact ⟨rfl,rfl⟩
theorem alike_any (w:World):Calls Tryz.prog 89 #[] w fun e w'=>e=.returned (.tuple #[.int .i64 2,.func (.func 100) #[] #[.pointer (some ⟨w.heap.size,0,none⟩)]])∧w' = w.alloc (.cells #[.int .i64 0] 3):=by
 go_enter Tryz.func89,Tryz.ntmps89
 go_wp2
 go_ret2
 exact ⟨rfl,rfl⟩
theorem exactly_any (w:World) (k:Int):Calls Tryz.prog 91 #[.int .i64 k] w fun e w'=>e=.returned (.func (.func 103) #[] #[.pointer (some ⟨w.heap.size,0,none⟩)])∧w' = w.alloc (.cells #[.int .i64 k] 3):=by
 go_enter Tryz.func91,Tryz.ntmps91
 go_wp2
 go_ret
 exact ⟨rfl,rfl⟩
theorem of_any (w:World) (k:Int):Calls Tryz.prog 90 #[.int .i64 k] w fun e w'=>e=.returned (.func (.func 101) #[] #[.pointer (some ⟨w.heap.size,0,none⟩)])∧w' = w.alloc (.cells #[.int .i64 k] 3):=by
 go_enter Tryz.func90,Tryz.ntmps90
 go_wp2
 go_ret
 exact ⟨rfl,rfl⟩
end
end Go.Proofs.YtkdojpnihinpbaaGreatDoor

namespace Go.Proofs.YtkdojpnihinpbaaGreatDoor
open Go.RowKit
def Tryz.cloneA_ren:Go.Shelf.Ren:=⟨fun | 15=>94 | n=>n,fun | 22=>37 | 3=>3 | 4=>4 | n=>n,fun | n=>n⟩
theorem Tryz.cloneA:Go.Proofs.Lays2.n15 Tryz.prog Tryz.cloneA_ren:={
  mixed:=by kernel_rfl
  f15:=Tryz.func94.trans (congrArg some (by kernel_rfl))
  t3:=Tryz.underlying3
  a3:=Tryz.isAgg3
  z3:=Tryz.sizeOf3
  v3:=Tryz.zeroValue3
  t4:=Tryz.underlying4
  a4:=Tryz.isAgg4
  z4:=Tryz.sizeOf4
  v4:=Tryz.zeroValue4
  t22:=Tryz.underlying37
  a22:=Tryz.isAgg37
  z22:=Tryz.sizeOf37
  v22:=Tryz.zeroValue37
  i3:=by kernel_rfl }
theorem info_int:(Tryz.prog.info? 3).map (fun i=>(i.zero,i.size,i.bytes))=some (some (.int .i64 0),1,8):=by kernel_rfl
abbrev intsV (l:List Int):List Value:=l.map (Value.int .i64)
section
variable {w w' : World}
theorem clone_any {X:Nat→Prop} {v:Value} {l:List Int} (R:IsAt X w v l) (hl:l.length≤100000000):Calls Tryz.prog 94 #[v] w fun e w'=>∃ v',e=.returned v'∧w'.ownsRow w.heap.size 3 1 v' l.length (intsV l)∧Below w.heap.size w w':=by
 obtain ⟨ao,cap,rfl,_,_,h2⟩:=R
 cases ao with
 | none =>
  have h0:l=[]:=by
   cases l with
   | nil=>rfl
   | cons x r =>
    obtain ⟨g,o,h3,_⟩:=h2 0 x rfl
    cases h3
  subst h0
  refine (Any.slices_Clone_int_nil Tryz.cloneA 0 cap w).mono ?_
  rintro e w' ⟨rfl,rfl⟩
  exact ⟨_,rfl,⟨rfl,.inl ⟨rfl,rfl⟩⟩,Below.refl _ _⟩
 | some a =>
  cases l with
  | nil =>
   refine (Any.slices_Clone_int_zero Tryz.cloneA a cap w).mono ?_
   rintro e w' ⟨v',rfl,h3,_,h4⟩
   exact ⟨v',rfl,h3,h4⟩
  | cons x r =>
   obtain ⟨g,o,h3,_⟩:=h2 0 x rfl
   cases h3
   refine (Any.slices_Clone_int Tryz.cloneA g o (x :: r).length cap (x :: r) w (Nat.le_refl _) (by omega) (fun j hj=>?_)).mono ?_
   · obtain ⟨g',o',h3,_,_,h5⟩:=h2 j _ (List.getElem?_eq_getElem hj)
     cases h3
     rw [h5,List.getD_eq_getElem?_getD,List.getElem?_eq_getElem hj];rfl
   · rintro e w' ⟨v',rfl,h3,_,h4⟩
     rw [List.take_length] at h3
     exact ⟨v',rfl,h3,h4⟩
theorem run_app1 {W:World} {B b m:Nat} {v:Value} {xs:List Value} {a:Int} (hown:W.ownsRow B 3 1 v m xs) (hb:W.heap[b]?=some (.cells #[.int .i64 a] 3 (0,0))) (hlen:m<1000000000) (hB:B≤W.heap.size) :
    ∃ g cap w',(Builtin.append_ #[37,37] 37 #[v,.slice (some ⟨b,0,none⟩) 1 1]).run Tryz.prog W=.ok (.slice (some ⟨g,0,none⟩) (m+1) cap) w' ∧
      w'.ownsRow B 3 1 (.slice (some ⟨g,0,none⟩) (m+1) cap) (m+1) (xs++[.int .i64 a])∧W.grownBy w' v.ownBlock∧(v.ownBlock=some g∨g=W.heap.size)∧g<w'.heap.size:=by
  obtain ⟨i0,hi,hz0,hz1,hz2⟩:=info_parts info_int
  exact run_append_lies (P:=Tryz.prog) W 37 37 B 3 i0 _ 1 8 Tryz.underlying37 hi hz0 hz1 hz2 rfl (by decide) v m xs hown ⟨b,0,none⟩ 1 1 [.int .i64 a] rfl (World.news_of_block hb)
    (by intro u hu;simp at hu;subst hu;rfl) (by decide) (by unfold maxLen;omega) (by omega) hB _ rfl
theorem row_is {W:World} {B n:Nat} {v:Value} {l:List Int} (h:W.ownsRow B 3 1 v n (intsV l)) (hn:n=l.length):IsAt (fun j=>j<B) W v l:=by
 subst hn
 rcases h.2 with ⟨rfl,h0⟩ | ⟨g,cap,cur,rfl,h1,h2,h3,h4,h5,h6⟩
 · have:=List.eq_nil_of_length_eq_zero h0
   subst this
   exact isAt_none
 · refine ⟨_,cap,rfl,h3,h4,fun j k hk=>⟨g,0,rfl,lt_of_block h2,by omega,?_⟩⟩
   rw [Nat.zero_add]
   refine cell_of h2 ?_
   have hj:=get_lt hk
   have h7:(cur.toList.take (l.length*1))[j]?=some (.int .i64 k):=by rw [h6];simp [hk]
   rw [List.getElem?_take,if_pos (by omega),Array.getElem?_toList] at h7
   exact h7
theorem grown_below {W:World} {B n:Nat} {v:Value} {xs:List Value} (h:W.ownsRow B 3 1 v n xs) (hg:W.grownBy w' v.ownBlock) (hB:B≤W.heap.size):Below B W w':=by
 refine ⟨hg.os,hg.tape,hg.output,hg.size,fun j hj=>?_⟩
 rcases Nat.lt_or_ge j W.heap.size with hj2 | hj2
 · refine hg.block j hj2 ?_
   rcases h.2 with ⟨rfl,_⟩ | ⟨g,cap,cur,rfl,h1,_⟩
   · intro h;cases h
   · intro h
     simp only [Value.ownBlock,Option.some.injEq] at h
     omega
 · omega
variable {B A:Nat} {p:Pg} {f:Fd} {V:Fv} {fi at_ mo:Int}
set_option maxRecDepth 100000 in
set_option maxHeartbeats 1000000 in
theorem item_any (F:FlAt B w A p f V fi at_ mo) {t m0:Nat} {tb:List Int} {fd:Fd} (ht:p.ta[t]?=some tb) (h0:tb[0]?=some (m0:Int)) (hf:p.fu[m0]?=some fd) :
    ∃ v1 v2 v3 v4,(SlAt 1 IntP B w v1 fd.lo∧SlAt 1 IntP B w v2 fd.re∧SlAt 1 IntP B w v3 fd.ar∧SlAt 3 InsP B w v4 fd.co)∧Calls Tryz.prog 95 #[.pointer (some ⟨A,0,none⟩),.int .i64 t] w fun e w'=>e=.returned (.agg #[.int .i64 fd.pa,v1,v2,v3,v4])∧Below w.heap.size w w':=by
  obtain ⟨g,o,c,n,u,hv,hn,hlt,hg,hc,hsl⟩:=lst_at F.pg.ta ht
  obtain ⟨g2,o2,c2,n2,v1,v2,v3,v4,hv2,hn2,hlt2,hg2,⟨y0,y1,y2,y3,y4⟩,r1,r2,r3,r4⟩:=fd_at F.pg.fu hf
  obtain ⟨ua,uc,rfl⟩:=sl_form hsl
  obtain ⟨ao,cap,hao,_,hel⟩:=hsl
  cases hao
  obtain ⟨g3,o3,rfl,hg3,hc3,_⟩:=ints_at hel h0
  rw [Nat.add_zero] at hc3
  obtain ⟨x1,z1,rfl⟩:=sl_form r1
  obtain ⟨x2,z2,rfl⟩:=sl_form r2
  obtain ⟨x3,z3,rfl⟩:=sl_form r3
  obtain ⟨x4,z4,rfl⟩:=sl_form r4
  refine ⟨_,_,_,_,⟨r1,r2,r3,r4⟩,?_⟩
  have q3:w.cell? ⟨A,3,none⟩=some V.v2:=cell_of F.box rfl
  have q4:w.cell? ⟨A,4,none⟩=some V.v3:=cell_of F.box rfl
  rw [hv2] at q3
  rw [hv] at q4
  have hlA:=lt_of_block F.box
  have l1:g<w.heap.size:=Nat.lt_of_lt_of_le hg F.hB
  have l2:g2<w.heap.size:=Nat.lt_of_lt_of_le hg2 F.hB
  have l3:g3<w.heap.size:=Nat.lt_of_lt_of_le hg3 F.hB
  have e1:decide (t<n)=true:=by simpa using hlt
  have e2:decide (m0<n2)=true:=by simpa using hlt2
  have e3:decide (0<tb.length)=true:=by have:=get_lt h0;simpa using this
  have e4:(0:Int)<(tb.length:Int):=by have:=get_lt h0;omega
  clear hv hv2 hn hn2 F hel r1 r2 r3 r4 h0 ht hf
  generalize tb.length=tl at *
  generalize fd.lo.length=k1 at *
  generalize fd.re.length=k2 at *
  generalize fd.ar.length=k3 at *
  generalize fd.co.length=k4 at *
  go_enter Tryz.func95,Tryz.ntmps95
  go_wp2_with fail
  go_region
  all_goals go_wp2
  all_goals (
    refine bodyPost_ret (v:=.agg #[.int .i64 fd.pa,.slice x1 k1 z1,.slice x2 k2 z2,.slice x3 k3 z3,.slice x4 k4 z4]) (by simp [results,Tryz.results95,go_sem]) rfl ⟨rfl,?_⟩
    exact below_drew ((Below.refl _ _).alloc (Nat.le_refl _) _))
end
end Go.Proofs.YtkdojpnihinpbaaGreatDoor
