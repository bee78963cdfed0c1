/- Kinds: within, bare, isKind, typeOf, fits. -/
import Derived.Test.YtkdojpnihinpbaaGreatDoorCdS0Jo
import Derived.Test.YtkdojpnihinpbaaGreatDoorCdMJo
namespace Go.Proofs.YtkdojpnihinpbaaGreatDoor
open Go.RowKit
set_option maxRecDepth 100000 in
theorem bits_loc:∀ a:Fin 2050,(bits .andNot .i64 (a.val:Int) 1048576=(a.val:Int)∧bits .and .i64 (a.val:Int) 1048576=0)∧bits .andNot .i64 ((a.val:Int)+1048576) 1048576=(a.val:Int)∧bits .and .i64 ((a.val:Int)+1048576) 1048576=1048576:=by decide +kernel
theorem kind_in {n:Nat} {k:Int} (hn:n≤1024) (h:isKB n k=true):(0≤k∧k<2050)∨(1048576≤k∧k<1048576+2050):=by
 unfold isKB at h
 have h1:=of_decide_eq_true h
 unfold bareK at h1
 by_cases hk:1048576≤k
 · rw [if_pos hk] at h1;omega
 · rw [if_neg hk] at h1;omega
theorem bits_bare {n:Nat} {k:Int} (hn:n≤1024) (h:isKB n k=true):bits .andNot .i64 k 1048576=bareK k∧bits .and .i64 k 1048576=locK k:=by
 rcases kind_in hn h with ⟨h1,h2⟩ | ⟨h1,h2⟩
 · obtain ⟨m,rfl⟩ : ∃ m:Nat,k=m:=⟨k.toNat,by omega⟩
   have:=(bits_loc ⟨m,by omega⟩).1
   unfold bareK locK
   rw [if_neg (by omega),if_neg (by omega)]
   exact this
 · obtain ⟨m,hm⟩ : ∃ m:Nat,k=(m:Int)+1048576:=⟨(k - 1048576).toNat,by omega⟩
   have:=(bits_loc ⟨m,by omega⟩).2
   unfold bareK locK
   rw [if_pos (by omega),if_pos (by omega),hm]
   exact ⟨this.1.trans (by simp),this.2⟩
theorem bareK_in {n:Nat} {k:Int} (hn:n≤1024) (h:isKB n k=true):0≤bareK k∧bareK k<2050:=by
 rcases kind_in hn h with ⟨h1,h2⟩ | ⟨h1,h2⟩ <;> unfold bareK <;> split <;> omega
section
variable (w:World)
theorem within_any (x:Int) (m:Nat):Calls Tryz.prog 32 #[.int .i64 x,.int .i64 m] w fun e w'=>e=.returned (.bool (inB x m))∧w' = w:=by
 have HB:=hide (show inB x m=decide (0≤x∧x<(m:Int)) from rfl)
 by_cases h0:0≤x
 · have d0:decide (0≤x)=true:=by simpa using h0
   have HE:=hide (show inB x m=decide (x<(m:Int)) by rw [HB.out];simp [h0])
   go_enter Tryz.func32,Tryz.ntmps32
   go_wp2
   go_ret
   exact ⟨by rw [HE.out];rfl,rfl⟩
 · have d0:decide (0≤x)=false:=by simpa using h0
   have HE:=hide (show inB x m=false by rw [HB.out];simp [h0])
   go_enter Tryz.func32,Tryz.ntmps32
   go_wp2
   go_ret
   exact ⟨by rw [HE.out];rfl,rfl⟩
theorem bare_any {n:Nat} {k:Int} (hn:n≤1024) (h:isKB n k=true):Calls Tryz.prog 102 #[.int .i64 k] w fun e w'=>e=.returned (.int .i64 (bareK k))∧w' = w:=by
 have HB:=hide (bits_bare hn h).1
 clear h
 go_enter Tryz.func102,Tryz.ntmps102
 go_wp2
 go_ret
 exact ⟨congrArg (fun x=>Ending.returned (Value.int .i64 x)) HB.out,rfl⟩
theorem typeOf_any {n:Nat} {k:Int} (hn:n≤1024) (h:isKB n k=true) (h2:2≤bareK k):Calls Tryz.prog 104 #[.int .i64 k] w fun e w'=>e=.returned (.int .i64 ((bareK k - 2) / 2))∧w' = w:=by
 have HB:=hide (bare_any w hn h)
 have hr:=(bareK_in hn h).2
 clear h
 generalize bareK k=q at *
 have hq:(2:Int)≤q:=h2
 go_enter Tryz.func104,Tryz.ntmps104
 go_wp2_with fail
 refine HB.out.mono ?_
 rintro e w' ⟨rfl,rfl⟩
 go_wp2
 go_ret
 exact ⟨rfl,rfl⟩
theorem isKB_big {m:Nat} {x y:Int} (hx:¬ x=0∧¬ x=1) (hy:bareK x=y):isKB m x=(decide (2≤y) && inB ((y - 2) / 2) m):=by
 unfold isKB inB
 rw [hy,Bool.eq_iff_iff]
 simp only [decide_eq_true_eq,Bool.and_eq_true]
 omega
theorem isKind_any (x:Int) (m:Nat) (hx : -9223372036854775808≤x∧x≤9223372036854775807):Calls Tryz.prog 84 #[.int .i64 x,.int .i64 m] w fun e w'=>e=.returned (.bool (isKB m x))∧w' = w:=by
 by_cases h0:x=0
 · subst h0
   have HE:=hide (show isKB m 0=true by simp [isKB])
   go_enter Tryz.func84,Tryz.ntmps84
   go_wp2
   go_ret
   exact ⟨by rw [HE.out];rfl,rfl⟩
 · by_cases h1:x=1
   · subst h1
     have HE:=hide (show isKB m 1=true by simp [isKB])
     go_enter Tryz.func84,Tryz.ntmps84
     go_wp2
     go_ret
     exact ⟨by rw [HE.out];rfl,rfl⟩
   · have q0:(x == 0)=false:=by simpa using h0
     have q1:(x == 1)=false:=by simpa using h1
     by_cases hl:1048576≤x
     · have dl:decide (1048576≤x)=true:=by simpa using hl
       have HK:=hide (isKB_big (m:=m) ⟨h0,h1⟩ (show bareK x=x - 1048576 by unfold bareK;rw [if_pos hl]))
       by_cases h2:2≤x - 1048576
       · have d2:decide (2≤x - 1048576)=true:=by simpa using h2
         have HC:=hide (within_any w ((x - 1048576 - 2) / 2) m)
         have HE:=hide (show isKB m x=inB ((x - 1048576 - 2) / 2) m by rw [HK.out,d2];rfl)
         go_enter Tryz.func84,Tryz.ntmps84
         go_wp2_with fail
         refine HC.out.mono ?_
         rintro e w' ⟨rfl,rfl⟩
         go_wp2
         go_ret
         exact ⟨by rw [HE.out];rfl,rfl⟩
       · have d2:decide (2≤x - 1048576)=false:=by simpa using h2
         have HE:=hide (show isKB m x=false by rw [HK.out,d2];rfl)
         go_enter Tryz.func84,Tryz.ntmps84
         go_wp2
         go_ret
         exact ⟨by rw [HE.out];rfl,rfl⟩
     · have dl:decide (1048576≤x)=false:=by simpa using hl
       have HK:=hide (isKB_big (m:=m) ⟨h0,h1⟩ (show bareK x=x by unfold bareK;rw [if_neg hl]))
       by_cases h2:2≤x
       · have d2:decide (2≤x)=true:=by simpa using h2
         have HC:=hide (within_any w ((x - 2) / 2) m)
         have HE:=hide (show isKB m x=inB ((x - 2) / 2) m by rw [HK.out,d2];rfl)
         go_enter Tryz.func84,Tryz.ntmps84
         go_wp2_with fail
         refine HC.out.mono ?_
         rintro e w' ⟨rfl,rfl⟩
         go_wp2
         go_ret
         exact ⟨by rw [HE.out];rfl,rfl⟩
       · have d2:decide (2≤x)=false:=by simpa using h2
         have HE:=hide (show isKB m x=false by rw [HK.out,d2];rfl)
         go_enter Tryz.func84,Tryz.ntmps84
         go_wp2
         go_ret
         exact ⟨by rw [HE.out];rfl,rfl⟩
end
end Go.Proofs.YtkdojpnihinpbaaGreatDoor

namespace Go.Proofs.YtkdojpnihinpbaaGreatDoor
open Go.RowKit
def IsAt (X:Nat→Prop) (w:World) (v:Value) (ks:List Int):Prop:=∃ ao cap,v=.slice ao ks.length cap∧ks.length≤cap∧cap≤maxLen∧∀ (j:Nat) (k:Int),ks[j]?=some k→∃ g o,ao=some ⟨g,o,none⟩∧g<w.heap.size∧¬ X g∧w.cell? ⟨g,o+j,none⟩=some (.int .i64 k)
structure Kp (X:Nat→Prop) (w w' : World):Prop where
  os:w'.os=w.os
  tape:w'.tape=w.tape
  output:w'.output=w.output
  size:w.heap.size≤w'.heap.size
  block:∀ j,j<w.heap.size→¬ X j→w'.heap[j]?=w.heap[j]?
inductive PileAt (X:Nat→Prop) (w:World) (E:Nat):Nat→List Int→Prop
  | nil:w.heap[E]?=some (.cells #[.slice none 0 0,.pointer none,.int .i64 0] 75 (0,0))→¬ X E→PileAt X w E E []
  | cons {b b' : Nat} {l ks:List Int} {a:Option Addr} {c:Nat}:w.heap[b]?=some (.cells #[.slice a ks.length c,.pointer (some ⟨b',0,none⟩),.int .i64 ((l.length+ks.length:Nat):Int)] 75 (0,0))→¬ X b→0<ks.length→IsAt X w (.slice a ks.length c) ks→PileAt X w E b' l→PileAt X w E b (l++ks)
abbrev pp (b:Nat):Value:=.pointer (some ⟨b,0,none⟩)
section
variable {X Y:Nat→Prop} {w w' : World} {E b b' : Nat} {l ks:List Int} {v:Value}
theorem Kp.refl (X:Nat→Prop) (w:World):Kp X w w:=⟨rfl,rfl,rfl,Nat.le_refl _,fun _ _ _=>rfl⟩
theorem Kp.trans {a b c:World} (h:Kp X a b) (g:Kp X b c):Kp X a c:=⟨g.os.trans h.os,g.tape.trans h.tape,g.output.trans h.output,Nat.le_trans h.size g.size,fun j hj hx=>(g.block j (Nat.lt_of_lt_of_le hj h.size) hx).trans (h.block j hj hx)⟩
theorem Kp.of_below (h:Below w.heap.size w w'):Kp X w w':=⟨h.os,h.tape,h.output,h.size,fun j hj _=>h.block j hj⟩
theorem Kp.mono (h:Kp X w w') (hs:∀ j,X j→Y j):Kp Y w w':=⟨h.os,h.tape,h.output,h.size,fun j hj hy=>h.block j hj (fun hx=>hy (hs j hx))⟩
theorem IsAt.keep (R:IsAt X w v ks) (h:Kp X w w'):IsAt X w' v ks:=by
 obtain ⟨ao,cap,h1,h2,h3,h4⟩:=R
 refine ⟨ao,cap,h1,h2,h3,fun j k hk=>?_⟩
 obtain ⟨g,o,e1,e2,e3,e4⟩:=h4 j k hk
 exact ⟨g,o,e1,Nat.lt_of_lt_of_le e2 h.size,e3,by rw [World.cell?_of_block (a:=⟨g,o+j,none⟩) (h.block g e2 e3)];exact e4⟩
theorem PileAt.lt (R:PileAt X w E b l):b<w.heap.size:=by
 cases R with
 | nil h _=>exact lt_of_block h
 | cons h _ _ _ _=>exact lt_of_block h
theorem PileAt.keep (h:Kp X w w'):∀ {b:Nat} {l:List Int},PileAt X w E b l→PileAt X w' E b l:=by
 intro b l R
 induction R with
 | nil h1 h2=>exact .nil ((h.block _ (lt_of_block h1) h2).trans h1) h2
 | cons h1 h2 h3 h4 _ ih=>exact .cons ((h.block _ (lt_of_block h1) h2).trans h1) h2 h3 (h4.keep h) ih
theorem IsAt.uniq {a:Option Addr} {n c:Nat} {ls:List Int} (R:IsAt X w (.slice a n c) ks) (S:IsAt X w (.slice a n c) ls):ks=ls:=by
 obtain ⟨ao,cap,h1,_,_,h4⟩:=R
 obtain ⟨bo,dap,g1,_,_,g4⟩:=S
 cases h1
 simp only [Value.slice.injEq] at g1
 obtain ⟨hab,hl,_⟩:=g1
 apply List.ext_getElem hl
 intro j hj hj'
 obtain ⟨g,o,e1,_,_,e4⟩:=h4 j _ (List.getElem?_eq_getElem hj)
 obtain ⟨g',o',f1,_,_,f4⟩:=g4 j _ (List.getElem?_eq_getElem hj')
 rw [← hab,e1] at f1
 cases f1
 rw [e4] at f4
 simp only [Option.some.injEq,Value.int.injEq,true_and] at f4
 exact f4
theorem PileAt.uniq:∀ {b:Nat} {l m:List Int},PileAt X w E b l→PileAt X w E b m→l=m:=by
 intro b l m R
 induction R generalizing m with
 | nil h1 _ =>
  intro S
  cases S with
  | nil _ _=>rfl
  | cons g1 _ _ _ _=>rw [h1] at g1;simp at g1
 | cons h1 _ h3 h4 _ ih =>
  intro S
  cases S with
  | nil g1 _=>rw [h1] at g1;simp at g1
  | cons g1 _ _ g4 gb =>
   rw [h1] at g1
   simp only [Option.some.injEq,Obj.cells.injEq,Array.mk.injEq,List.cons.injEq,Value.slice.injEq,Value.pointer.injEq,Addr.mk.injEq,and_true] at g1
   obtain ⟨⟨rfl,hn,rfl⟩,rfl,_⟩:=g1
   rw [ih gb]
   rw [← hn] at g4
   rw [h4.uniq g4]
theorem PileAt.nil_eq (R:PileAt X w E b []):b=E:=by
 generalize hl:([]:List Int)=l at R
 cases R with
 | nil _ _=>rfl
 | cons _ _ h3 _ _ =>
  rw [List.nil_eq_append_iff] at hl
  rw [hl.2] at h3
  simp at h3
theorem IsAt.take {a:Option Addr} {n c:Nat} (R:IsAt X w (.slice a n c) ks) {m:Nat} (hm:m≤ks.length):IsAt X w (.slice a m c) (ks.take m):=by
 obtain ⟨ao,cap,h1,h2,h3,h4⟩:=R
 cases h1
 refine ⟨a,c,by rw [List.length_take,Nat.min_eq_left hm],by rw [List.length_take];omega,h3,fun j k hk=>?_⟩
 rw [List.getElem?_take] at hk
 split at hk
 · exact h4 j k hk
 · cases hk
set_option maxHeartbeats 400000 in
theorem with_any (R:PileAt X w E b l) (K:IsAt X w v ks) (hX:∀ j,X j→j<w.heap.size) (hd:l.length+ks.length≤4000000000000) :
    Calls Tryz.prog 34 #[pp b,v] w fun e w'=>∃ b',e=.returned (pp b')∧PileAt X w' E b' (l++ks)∧Below w.heap.size w w':=by
  have HR:=hide R
  have HK:=hide K
  have HX:=hide hX
  obtain ⟨ao,cap,rfl,hcap,_⟩:=K
  have hdep:w.cell? ⟨b,2,none⟩=some (.int .i64 (l.length:Int)):=by
   cases R with
   | nil h _=>exact cell_of h rfl
   | cons h _ _ _ _=>rw [List.length_append];exact cell_of h rfl
  clear R hX
  by_cases h0:ks.length=0
  · have hk:ks=[]:=List.eq_nil_of_length_eq_zero h0
    subst hk
    go_enter Tryz.func34,Tryz.ntmps34
    go_wp2
    go_ret
    exact ⟨b,rfl,by rw [List.append_nil];exact HR.out,Below.refl _ _⟩
  · have q0:((ks.length:Int) == 0)=false:=beq_eq_false_iff_ne.mpr (by omega)
    have hd' : (l.length:Int)+(ks.length:Int)≤4000000000000:=by omega
    have HP:=hide (show PileAt X (w.alloc (.cells #[.slice ao ks.length cap,pp b,.int .i64 ((l.length:Int)+(ks.length:Int))] 75)) E w.heap.size (l++ks) from by
     have hb:Below w.heap.size w (w.alloc (.cells #[.slice ao ks.length cap,pp b,.int .i64 ((l.length:Int)+(ks.length:Int))] 75)):=(Below.refl _ _).alloc (Nat.le_refl _) _
     have hn:=heap_new w (.cells #[.slice ao ks.length cap,pp b,.int .i64 ((l.length:Int)+(ks.length:Int))] 75) rfl
     generalize w.alloc (.cells #[.slice ao ks.length cap,pp b,.int .i64 ((l.length:Int)+(ks.length:Int))] 75)=W at *
     exact .cons (by rw [hn];simp) (fun h=>Nat.lt_irrefl _ (HX.out _ h)) (by omega) (HK.out.keep (Kp.of_below hb)) (HR.out.keep (Kp.of_below hb)))
    have HB:=hide (show Below w.heap.size w (w.alloc (.cells #[.slice ao ks.length cap,pp b,.int .i64 ((l.length:Int)+(ks.length:Int))] 75)) from (Below.refl _ _).alloc (Nat.le_refl _) _)
    have n0:(0:Int)≤(l.length:Int):=by omega
    have n1:(0:Int)≤(ks.length:Int):=by omega
    clear h0 hd hcap
    generalize (l.length:Int)=L at *
    generalize hN:ks.length=N at *
    clear hN
    go_enter Tryz.func34,Tryz.ntmps34
    go_wp2
    go_ret
    exact ⟨_,rfl,HP.out,HB.out⟩
end
end Go.Proofs.YtkdojpnihinpbaaGreatDoor


namespace Go.Proofs.YtkdojpnihinpbaaGreatDoor
open Go.RowKit
section
variable {w:World} {B B' : Nat}
end
end Go.Proofs.YtkdojpnihinpbaaGreatDoor

namespace Go.Proofs.YtkdojpnihinpbaaGreatDoor
open Go.RowKit
theorem SlAt.get {α:Type} {k B:Nat} {P:World→List Value→α→Prop} {w:World} {a:Option Addr} {n c:Nat} {l:List α} (h:SlAt k P B w (.slice a n c) l) {j:Nat} {x:α} (hx:l[j]?=some x):∃ g o cs,a=some ⟨g,o,none⟩∧g<B∧(∀ r u,cs[r]?=some u→w.cell? ⟨g,o+j*k+r,none⟩=some u)∧P w cs x:=by
 obtain ⟨ao,cp,hv,_,hel⟩:=h
 cases hv
 exact hel j x hx
theorem below_of_dr {w w' : World} (h:Below w.drew.heap.size w.drew w'):Below w.heap.size w w':=⟨h.os,h.tape,h.output,h.size,h.block⟩
section
variable {w:World} {B:Nat}
end
end Go.Proofs.YtkdojpnihinpbaaGreatDoor

namespace Go.Proofs.YtkdojpnihinpbaaGreatDoor
open Go.RowKit
section
variable {X:Nat→Prop} {w:World} {E b b' : Nat} {l l' ks ls:List Int} {v u:Value}
theorem Kp.drew (X:Nat→Prop) (w:World):Kp X w w.drew:=⟨rfl,rfl,rfl,Nat.le_refl _,fun _ _ _=>rfl⟩
theorem Kp.drewN (X:Nat→Prop) (w:World) (q:Nat):Kp X w (w.drewN q):=⟨rfl,rfl,rfl,Nat.le_refl _,fun _ _ _=>rfl⟩
def WoR (X:Nat→Prop) (w:World) (E:Nat) (t:List Int) (a n:Value):Prop:=∃ (b m:Nat) (l:List Int),a=pp b∧n=.int .i64 m∧PileAt X w E b l∧m≤l.length∧l.length≤4000000000000∧l.take (l.length - m)=t
theorem wrap_nat {n:Nat} (h:n≤4000000000000):IntKind.i64.wrap (n:Int)=(n:Int):=by
 have h1:(n:Int)≤4000000000000:=by omega
 have h2:(0:Int)≤(n:Int):=by omega
 clear h
 go_arith
theorem take_less {l ks:List Int} {m:Nat} (h:ks.length≤m):(l++ks).take ((l++ks).length - m)=l.take (l.length - (m - ks.length)):=by
 rw [List.length_append,List.take_append_of_le_length (by omega)]
 congr 1
 omega
theorem take_more {l ks:List Int} {m:Nat} (h:m≤ks.length):(l++ks).take ((l++ks).length - m)=l++ks.take (ks.length - m):=by
 rw [List.length_append,show l.length+ks.length - m=l.length+(ks.length - m) by omega,List.take_length_add_append]
set_option maxRecDepth 100000 in
set_option maxHeartbeats 1000000 in
theorem without_any (R:PileAt X w E b l) {n:Nat} (hn:n≤l.length) (hX:∀ j,X j→j<w.heap.size) (hd:l.length≤4000000000000) :
    Calls Tryz.prog 35 #[pp b,.int .i64 n] w fun e w'=>∃ b',e=.returned (pp b')∧PileAt X w' E b' (l.take (l.length - n))∧Below w.heap.size w w':=by
  have HR:=hide R
  have HX:=hide hX
  have HN:=hide hn
  have HD:=hide hd
  clear R hX hn
  have hnb:(n:Int)≤4000000000000:=by have:=HN.out;omega
  generalize ht:l.take (l.length - n)=t
  have HT:=hide ht
  clear ht
  go_enter Tryz.func35,Tryz.ntmps35
  go_wp2
  go_loop [0,1] (fun a n=>WoR X w E t a n) (fun _ n=>(intOf n).toNat)
  case atStart=>exact ⟨b,n,l,rfl,rfl,HR.out,HN.out,HD.out,HT.out⟩
  case round =>
   obtain ⟨b1,m,l1,rfl,rfl,R1,hm,hd1,ht1⟩:=hrel
   have HR1:=hide R1
   have HT1:=hide ht1
   have hmb:(m:Int)≤4000000000000:=by omega
   clear ht1
   cases R1 with
   | nil h1 _ =>
    have c0:w.cell? ⟨E,0,none⟩=some (.slice none 0 0):=cell_of h1 rfl
    obtain rfl:m=0:=by simpa using hm
    clear h1 hm
    go_wp2
    go_ret
    exact ⟨E,rfl,by rw [← HT1.out];exact HR1.out,Below.refl _ _⟩
   | @cons _ b0 l0 ks a c h1 h2 h3 h4 h5 =>
    have c0:w.cell? ⟨b1,0,none⟩=some (.slice a ks.length c):=cell_of h1 rfl
    have c1:w.cell? ⟨b1,1,none⟩=some (pp b0):=cell_of h1 rfl
    have HB1:=hide (lt_of_block h1)
    have H4:=hide h4
    have H5:=hide h5
    have H3:=hide h3
    have k3:(0:Int)<(ks.length:Int):=by omega
    rw [List.length_append] at hm hd1
    by_cases hge:ks.length≤m
    · have d1:decide ((ks.length:Int)≤(m:Int))=true:=by simp;omega
      have d2:decide (ks.length≤m)=true:=by simpa using hge
      have d3:decide ((0:Int)<(m:Int))=true:=by simp;omega
      have d4:decide (0<m)=true:=by simp;omega
      have HGE:=hide hge
      have g1:(ks.length:Int)≤(m:Int):=by omega
      have HS:=hide (show ((m:Int) - (ks.length:Int))=((m - ks.length:Nat):Int) by omega)
      clear h1 h2 h3 h4 h5 hge
      generalize hkl:ks.length=kl at *
      have HKL:=hide hkl
      clear hkl
      go_wp2
      go_round
      case rel =>
       refine ⟨b0,m - kl,l0,rfl,by rw [HS.out],H5.out,by omega,by omega,?_⟩
       rw [← HT1.out,take_less (by rw [HKL.out];exact HGE.out),HKL.out]
      case measure=>rw [HS.out];simp [intOf];omega
    · have d1:decide ((ks.length:Int)≤(m:Int))=false:=by simp;omega
      have d2:decide (ks.length≤m)=false:=by simpa using hge
      have HGE:=hide (show m≤ks.length by omega)
      by_cases h0:m=0
      · subst h0
        have d3:decide ((ks.length:Int)≤0)=false:=by simpa using d1
        clear h1 h2 h3 h4 h5 hge d1 d2
        generalize hkl:ks.length=kl at *
        clear hkl
        go_wp2
        all_goals (
          go_ret
          exact ⟨b1,rfl,by rw [← HT1.out,Nat.sub_zero,List.take_length];exact HR1.out,Below.refl _ _⟩)
      · have q0:((m:Int) == 0)=false:=beq_eq_false_iff_ne.mpr (by omega)
        have HC:=hide (with_any (w:=w.drew) (H5.out.keep (Kp.drew X w)) ((H4.out.take (m:=ks.length - m) (by omega)).keep (Kp.drew X w)) HX.out (by rw [List.length_take];omega))
        have HTM:=hide (show t=l0++ks.take (ks.length - m) by rw [← HT1.out,take_more HGE.out])
        have hcap:ks.length≤c:=by
         obtain ⟨_,_,hv,hcp,_⟩:=H4.out
         cases hv
         exact hcp
        obtain ⟨d,hd2⟩ : ∃ d,ks.length - m=d:=⟨_,rfl⟩
        have hs1:(ks.length:Int) - (m:Int)=(d:Int):=by omega
        have hs2:IntKind.i64.wrap (d:Int)=(d:Int):=wrap_nat (by omega)
        have e1:(d:Int)≤(c:Int):=by omega
        have e2:d≤c:=by omega
        have e3:(0:Int)≤(d:Int):=by omega
        have hlt1:=HB1.out
        rw [hd2] at HC HTM
        clear h1 h2 h3 h4 h5 hge hm hd1 hd2 hmb k3
        generalize ks.length=kl at *
        go_wp2_with fail
        go_region_held3 (fun w'=>w'.cell? ⟨b1,0,none⟩=some (.slice a kl c)∧w'.cell? ⟨b1,1,none⟩=some (pp b0)) (first | go_keep | exact ⟨(hb3.cell (p:=⟨b1,0,none⟩) hlt1).trans c0,(hb3.cell (p:=⟨b1,1,none⟩) hlt1).trans c1⟩)
          ((go_at_call 34;refine HC.out.mono ?_;rintro e w3 ⟨b3,rfl,hp3,hb3⟩))
        all_goals (
          go_wp2
          go_ret
          exact ⟨b3,rfl,by rw [HTM.out];exact hp3,below_of_dr hb3⟩)
end
end Go.Proofs.YtkdojpnihinpbaaGreatDoor

namespace Go.Proofs.YtkdojpnihinpbaaGreatDoor
open Go.RowKit Go.Shelf
attribute [local go_sem] Oper.semAt_some
section
variable {w:World}
theorem backward_in {F:Fence} (hF:F.fn 40) (hro:F.round=none) {m:Nat} (a:Option Addr) (n c:Nat):CallsIn F m Tryz.prog 40 #[.slice a n c] w fun e w'=>e=.returned (.func (.func 53) #[] #[.pointer (some ⟨w.heap.size,0,none⟩)])∧w' = w.alloc (.cells #[.slice a n c] 37):=by
 refine callsIn_of_wp Tryz.func40 rfl hF ?_ hro
 simp only [Tryz.ntmps40,List.size_toArray,List.length_cons,List.length_nil,Nat.reduceAdd,Nat.reduceSub,Array.replicate_succ,Array.replicate_zero,List.push_toArray,List.append_toArray,List.nil_append,List.cons_append]
 gi_wp2
 go_ret
 exact ⟨rfl,rfl⟩
theorem down_in {F:Fence} (hF:F.fn 22) (hro:F.round=none) {m:Nat} (b n:Nat):CallsIn F m Tryz.prog 22 #[pp b,.int .i64 n] w fun e w'=>e=.returned (.func (.func 39) #[] #[.pointer (some ⟨w.heap.size+1,0,none⟩),.pointer (some ⟨w.heap.size,0,none⟩)])∧w' = (w.alloc (.cells #[pp b] 43)).alloc (.cells #[.int .i64 n] 3):=by
 refine callsIn_of_wp Tryz.func22 rfl hF ?_ hro
 simp only [Tryz.ntmps22,List.size_toArray,List.length_cons,List.length_nil,Nat.reduceAdd,Nat.reduceSub,Array.replicate_succ,Array.replicate_zero,List.push_toArray,List.append_toArray,List.nil_append,List.cons_append]
 gi_wp2
 go_ret
 exact ⟨rfl,rfl⟩
def YR (J:World→Prop) (Jx:World→Prop) (Jp:List PanicEntry→World→Prop) (e:Ending) (W:World):Prop:=(e=.returned (.bool true)∧J W)∨(e=.returned (.bool false)∧Jx W)∨∃ ch,e=.panicked ch∧Jp ch W
def BkR (J:Nat→World→Prop) (N:Nat) (i:Value) (wr:World):Prop:=∃ k:Nat,i=.int .i64 ((N:Int) - 1 - (k:Int))∧k≤N∧J k wr
set_option maxHeartbeats 1000000 in
theorem back1_in {F:Fence} (hF:F.fn 53) (hro:F.round=none) (hdp:F.depth=none) {n:Nat} {J:Nat→World→Prop} {Jx:World→Prop} {Jp:List PanicEntry→World→Prop} {l c:Nat} {a:Option Addr} {cap:Nat} {ks:List Int} (hl:ks.length≤4000000000000)
    (hR:∀ k W,J k W→W.cell? ⟨c,0,none⟩=some (.slice a ks.length cap)∧∀ j x,ks[j]?=some x→∃ g o,a=some ⟨g,o,none⟩∧W.cell? ⟨g,o+j,none⟩=some (.int .i64 x))
    (hY:∀ k W,J k W→k<ks.length→∀ x,ks[ks.length - 1 - k]?=some x→YieldAt F (n - 1) Tryz.prog l #[.int .i64 ((ks.length - 1 - k:Nat):Int),.int .i64 x] W (YR (J (k+1)) Jx Jp))
    (W:World) (h0:J 0 W) :
    CallsIn F n Tryz.prog 53 #[.func (.yield l) #[] #[],.pointer (some ⟨c,0,none⟩)] W fun e W'=>(∃ v,e=.returned v∧(J ks.length W'∨Jx W'))∨∃ ch,e=.panicked ch∧Jp ch W':=by
  have HR:=hide hR
  have HY:=hide hY
  obtain ⟨c0,_⟩:=hR 0 W h0
  have hlb:(ks.length:Int)≤4000000000000:=by omega
  have HL:=hide hl
  clear hR hY hl
  refine callsIn_of_wp Tryz.func53 rfl hF ?_ hro
  simp only [Tryz.ntmps53,List.size_toArray,List.length_cons,List.length_nil,Nat.reduceAdd,Nat.reduceSub,Array.replicate_succ,Array.replicate_zero,List.push_toArray,List.append_toArray,List.nil_append,List.cons_append]
  gi_wp2
  gi_loopw [3] (fun i wr=>BkR J ks.length i wr) (fun i _=>(intOf i+1).toNat)
  case atStart=>exact ⟨0,by simp,Nat.zero_le _,h0⟩
  case round =>
   obtain ⟨k,rfl,hk,hJ⟩:=hrel
   have HJ:=hide hJ
   obtain ⟨c0',hcs⟩:=HR.out k wr hJ
   by_cases hlt:k<ks.length
   · obtain ⟨t,ht⟩ : ∃ t,ks.length - 1 - k=t:=⟨_,rfl⟩
     have htl:t<ks.length:=by omega
     obtain ⟨x,hx⟩ : ∃ x,ks[t]?=some x:=⟨ks[t],by simp [htl]⟩
     obtain ⟨g,o,rfl,hcx⟩:=hcs t x hx
     obtain ⟨fn,tmps,assign,body,hy,hRd⟩:=HY.out k wr hJ hlt x (by rw [ht];exact hx)
     rw [ht] at hy
     have HRd:=hide hRd
     have hti:(ks.length:Int) - 1 - (k:Int)=(t:Int):=by omega
     have ht1:(t:Int)<(ks.length:Int):=by omega
     have ht2:(0:Int)≤(t:Int):=by omega
     have HK:=hide hlt
     have HT:=hide (show ((ks.length:Int) - 1 - ((k+1:Nat):Int))=(t:Int) - 1 by omega)
     rw [hti]
     clear hcs hRd hJ hx hlt hk ht c0 hti
     generalize hn:ks.length=N at *
     have HN:=hide hn
     clear hn
     gi_wp2
     refine HRd.out.mono ?_
     rintro e W3 (⟨rfl,hJ3⟩ | ⟨rfl,hJx3⟩ | ⟨ch,rfl,hJp3⟩)
     · have HJ3:=hide hJ3
       clear hJ3
       gi_wp2
       go_roundw
       case rel=>exact ⟨k+1,by rw [HT.out],HK.out,HJ3.out⟩
       case measure=>rw [intOf_int,intOf_int];omega
     · have HJ3:=hide hJx3
       clear hJx3
       gi_wp2
       refine bodyPost_ret (results_none rfl _ _ _) rfl ?_
       exact .inl ⟨_,rfl,.inr HJ3.out⟩
     · exact ⟨rfl,.inr ⟨ch,rfl,hJp3⟩⟩
   · obtain rfl:k=ks.length:=by omega
     have hti:(ks.length:Int) - 1 - (ks.length:Int) = -1:=by omega
     rw [hti]
     clear hcs hJ hlt hk c0 hti
     generalize hn:ks.length=N at *
     gi_wp2
     go_end0
     exact .inl ⟨_,rfl,.inl (hn ▸ HJ.out)⟩
end
end Go.Proofs.YtkdojpnihinpbaaGreatDoor
