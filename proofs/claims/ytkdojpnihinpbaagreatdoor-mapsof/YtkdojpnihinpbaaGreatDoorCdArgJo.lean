/- Programs and bytes that are arguments. -/
import Derived.Test.YtkdojpnihinpbaaGreatDoorVfKJo
import Derived.ProofKit
import Derived.OpenShut
import Derived.Deep.Slices
import Derived.Deep.Strs
import Derived.Lib.SmallJoins
namespace Go.Proofs.YtkdojpnihinpbaaGreatDoor
open Go.ChangeShapes Go.WideShapes Go.ChangeAt Go.RowKit
theorem sizesA:Tryz.prog.cellsOf 27=4∧Tryz.prog.cellsOf 40=5∧Tryz.prog.cellsOf 46=3∧Tryz.prog.cellsOf 59=1∧Tryz.prog.cellsOf 3=1∧Tryz.prog.cellsOf 37=1∧Tryz.prog.cellsOf 9=1∧Tryz.prog.cellsOf 5=1 :=
  ⟨by kernel_rfl,by kernel_rfl,by kernel_rfl,by kernel_rfl,by kernel_rfl,by kernel_rfl,by kernel_rfl,by kernel_rfl⟩
theorem sizesB:Tryz.prog.cellsOf 22=1∧Tryz.prog.cellsOf 23=1∧Tryz.prog.cellsOf 24=1∧Tryz.prog.cellsOf 25=1∧Tryz.prog.cellsOf 38=1:=⟨by kernel_rfl,by kernel_rfl,by kernel_rfl,by kernel_rfl,by kernel_rfl⟩
theorem l1_of {α:Type} {cs:List α} (h:cs.length=1):∃ c0,cs=[c0]:=by
 match cs,h with
 | [c0],_=>exact ⟨c0,rfl⟩
theorem l3_of {α:Type} {cs:List α} (h:cs.length=3):∃ c0 c1 c2,cs=[c0,c1,c2]:=by
 match cs,h with
 | [c0,c1,c2],_=>exact ⟨c0,c1,c2,rfl⟩
theorem l4_of {α:Type} {cs:List α} (h:cs.length=4):∃ c0 c1 c2 c3,cs=[c0,c1,c2,c3]:=by
 match cs,h with
 | [c0,c1,c2,c3],_=>exact ⟨c0,c1,c2,c3,rfl⟩
theorem l5_of {α:Type} {cs:List α} (h:cs.length=5):∃ c0 c1 c2 c3 c4,cs=[c0,c1,c2,c3,c4]:=by
 match cs,h with
 | [c0,c1,c2,c3,c4],_=>exact ⟨c0,c1,c2,c3,c4,rfl⟩
section
variable {H:Type} {enc:TypeId × Value→H} {w:World}
theorem trod_struct5 {P:Program} {base:Nat} {spare:Nat→Bool} {held:Bool} {t:TypeId} {f0 f1 f2 f3 f4:Field} {fuel:Nat} {cs:List Value} {x:DataW H × List MemPlace} (ht:P.underlying t=some (.struct #[f0,f1,f2,f3,f4])) (h:DataW.trod enc P w base spare held fuel t cs=some x) :
    ∃ y0 y1 y2 y3 y4 n,cs.length=P.cellsOf t∧DataW.trod enc P w base spare held n f0.type ((cs.drop f0.offset).take (P.cellsOf f0.type))=some y0 ∧
      DataW.trod enc P w base spare held n f1.type ((cs.drop f1.offset).take (P.cellsOf f1.type))=some y1∧DataW.trod enc P w base spare held n f2.type ((cs.drop f2.offset).take (P.cellsOf f2.type))=some y2∧DataW.trod enc P w base spare held n f3.type ((cs.drop f3.offset).take (P.cellsOf f3.type))=some y3∧DataW.trod enc P w base spare held n f4.type ((cs.drop f4.offset).take (P.cellsOf f4.type))=some y4:=by
  obtain ⟨xs,n,_,rfl,hl,hlen,hf⟩:=DataW.trod_struct ht h
  match xs,hlen with
  | [y0,y1,y2,y3,y4],_=>exact ⟨y0,y1,y2,y3,y4,n,hl,by simpa using hf 0 f0 rfl,by simpa using hf 1 f1 rfl,by simpa using hf 2 f2 rfl,by simpa using hf 3 f3 rfl,by simpa using hf 4 f4 rfl⟩
theorem trod_struct4 {P:Program} {base:Nat} {spare:Nat→Bool} {held:Bool} {t:TypeId} {f0 f1 f2 f3:Field} {fuel:Nat} {cs:List Value} {x:DataW H × List MemPlace} (ht:P.underlying t=some (.struct #[f0,f1,f2,f3])) (h:DataW.trod enc P w base spare held fuel t cs=some x) :
    ∃ y0 y1 y2 y3 n,cs.length=P.cellsOf t∧DataW.trod enc P w base spare held n f0.type ((cs.drop f0.offset).take (P.cellsOf f0.type))=some y0 ∧
      DataW.trod enc P w base spare held n f1.type ((cs.drop f1.offset).take (P.cellsOf f1.type))=some y1∧DataW.trod enc P w base spare held n f2.type ((cs.drop f2.offset).take (P.cellsOf f2.type))=some y2∧DataW.trod enc P w base spare held n f3.type ((cs.drop f3.offset).take (P.cellsOf f3.type))=some y3:=by
  obtain ⟨xs,n,_,rfl,hl,hlen,hf⟩:=DataW.trod_struct ht h
  match xs,hlen with
  | [y0,y1,y2,y3],_=>exact ⟨y0,y1,y2,y3,n,hl,by simpa using hf 0 f0 rfl,by simpa using hf 1 f1 rfl,by simpa using hf 2 f2 rfl,by simpa using hf 3 f3 rfl⟩
/-- A list that is an argument. -/
theorem sl_of {α:Type} [Inhabited α] {st T k:Nat} {P:World→List Value→α→Prop} (hu:Tryz.prog.underlying st=some (.slice T)) (hk:Tryz.prog.cellsOf T=k) (hk0:0<k) (hel:∀ (n:Nat) (cs:List Value) (x:DataW H × List MemPlace),DataW.trod enc Tryz.prog w 0 (fun _=>true) true n T cs=some x→∃ y:α,P w cs y)
    {fuel:Nat} {v:Value} {x:DataW H × List MemPlace} (h:DataW.trod enc Tryz.prog w 0 (fun _=>true) true fuel st [v]=some x):∃ l:List α,SlAt k P w.heap.size w v l:=by
  rcases Go.Deep.open_slice hu h with ⟨hcs,_⟩ | ⟨a,len,cap,mm,nn,D,Pl,hcs,_,hlc,hcm,hmm,_,hels⟩
  · simp at hcs
    subst hcs
    exact ⟨[],none,0,rfl,by simp,fun j x hx=>by simp at hx⟩
  · simp at hcs
    subst hcs
    simp only [if_true] at hmm
    subst hmm
    rw [hk] at hels
    have hi:∀ i,i<len→∃ y:List Value × α,w.cells? 0 (a.add (i*k)) k=some y.1∧P w y.1 y.2:=fun i hi=>by
     obtain ⟨cs',hc,ht⟩:=hels i (by omega)
     obtain ⟨y,hy⟩:=hel _ _ _ ht
     exact ⟨(cs',y),hc,hy⟩
    obtain ⟨f,hf⟩:=Go.Deep.choose_lt (α:=List Value × α) hi
    refine ⟨(List.range len).map fun i=>(f i).2,some a,mm,by simp,by simp only [maxLen] at hcm ⊢;simp;omega,fun j u hj=>?_⟩
    have hjl:=get_lt hj
    rw [List.length_map,List.length_range] at hjl
    rw [List.getElem?_map,List.getElem?_range hjl] at hj
    simp at hj
    subst hj
    have hcell:∀ r,r<k→w.cell? (a.add (j*k+r))=(f j).1[r]?:=fun r hr=>by
     have:=(World.cells?_some (hf j hjl).1).2.2 r hr
     rwa [Go.Deep.add_add] at this
    have hlen:(f j).1.length=k:=(World.cells?_some (hf j hjl).1).2.1
    have hspot:a.spot=none:=by
     have h0:=(World.cells?_some (hf 0 (by omega)).1).2.2 0 hk0
     have hl0:(f 0).1.length=k:=(World.cells?_some (hf 0 (by omega)).1).2.1
     rw [Go.Deep.add_add,List.getElem?_eq_getElem (by omega)] at h0
     simpa [Addr.add] using World.cell?_spot h0
    obtain ⟨b,off,spot⟩:=a
    simp only at hspot
    subst hspot
    have ad:∀ r,(⟨b,off,none⟩ : Addr).add r=⟨b,off+r,none⟩:=fun r=>by cases r <;> simp [Addr.add]
    have h0:=hcell 0 hk0
    rw [ad,List.getElem?_eq_getElem (by omega)] at h0
    refine ⟨b,off,(f j).1,rfl,World.block_lt_of_cell? w _ h0,fun r v hv=>?_,(hf j hjl).2⟩
    have hr:=get_lt hv
    have:=hcell r (by omega)
    rw [ad,hv,← Nat.add_assoc] at this
    exact this
theorem int_of {n:Nat} {cs:List Value} {x:DataW H × List MemPlace} (h:DataW.trod enc Tryz.prog w 0 (fun _=>true) true n 3 cs=some x):∃ y:Int,IntP w cs y:=by
 obtain ⟨k,e0,_,hw⟩:=DataW.trod_int Tryz.underlying3 h
 exact ⟨k,e0,bounds_i64 hw⟩
theorem str_of {n:Nat} {cs:List Value} {x:DataW H × List MemPlace} (h:DataW.trod enc Tryz.prog w 0 (fun _=>true) true n 9 cs=some x):∃ y:By,StrP w cs y:=by
 obtain ⟨s,e0,_,_⟩:=DataW.trod_string Tryz.underlying9 h
 exact ⟨s.data.toList,e0⟩
theorem ints_of {n:Nat} {v:Value} {x:DataW H × List MemPlace} (h:DataW.trod enc Tryz.prog w 0 (fun _=>true) true n 37 [v]=some x):∃ l:List Int,SlAt 1 IntP w.heap.size w v l:=sl_of Tryz.underlying37 sizesA.2.2.2.2.1 (by omega) (fun _ _ _ h=>int_of h) h
theorem one_cell {st T:Nat} (hu:Tryz.prog.underlying st=some (.slice T)) {n:Nat} {cs:List Value} {x:DataW H × List MemPlace} (h:DataW.trod enc Tryz.prog w 0 (fun _=>true) true n st cs=some x):∃ v,cs=[v]:=by
 rcases Go.Deep.open_slice hu h with ⟨hcs,_⟩ | ⟨a,len,cap,mm,nn,D,Pl,hcs,_⟩
 · exact ⟨_,hcs⟩
 · exact ⟨_,hcs⟩
theorem tab_of {n:Nat} {cs:List Value} {x:DataW H × List MemPlace} (h:DataW.trod enc Tryz.prog w 0 (fun _=>true) true n 37 cs=some x):∃ l:List Int,LstP w.heap.size w cs l:=by
 obtain ⟨v,rfl⟩:=one_cell Tryz.underlying37 h
 obtain ⟨l,hl⟩:=ints_of h
 exact ⟨l,v,rfl,hl⟩
theorem lay_of {n:Nat} {cs:List Value} {x:DataW H × List MemPlace} (h:DataW.trod enc Tryz.prog w 0 (fun _=>true) true n 59 cs=some x):∃ l:List Int,LstP w.heap.size w cs l:=by
 obtain ⟨y0,n,hx,hl,h0⟩:=trod_struct1 Tryz.underlying59 h
 obtain ⟨v,rfl⟩:=l1_of (hl.trans sizesA.2.2.2.1)
 simp only [sizesA.2.2.2.2.2.1,List.drop_zero,List.take_succ_cons,List.take_zero] at h0
 exact tab_of h0
theorem ins_of {n:Nat} {cs:List Value} {x:DataW H × List MemPlace} (h:DataW.trod enc Tryz.prog w 0 (fun _=>true) true n 46 cs=some x):∃ i:In3,InsP w cs i:=by
 obtain ⟨y0,y1,y2,n,hx,hl,h0,h1,h2⟩:=Go.Deep.trod_struct3 Tryz.underlying46 h
 obtain ⟨c0,c1,c2,rfl⟩:=l3_of (hl.trans sizesA.2.2.1)
 simp only [sizesA.2.2.2.2.1,List.drop_zero,List.drop_succ_cons,List.take_succ_cons,List.take_zero] at h0 h1 h2
 obtain ⟨a,e0,b0⟩:=int_of h0
 obtain ⟨b,e1,b1⟩:=int_of h1
 obtain ⟨c,e2,b2⟩:=int_of h2
 simp at e0 e1 e2
 subst e0 e1 e2
 exact ⟨⟨a,b,c⟩,rfl,b0,b1,b2⟩
instance:Inhabited In3:=⟨⟨0,0,0⟩⟩
instance:Inhabited Fd:=⟨⟨0,[],[],[],[]⟩⟩
theorem fun_of {n:Nat} {cs:List Value} {x:DataW H × List MemPlace} (h:DataW.trod enc Tryz.prog w 0 (fun _=>true) true n 40 cs=some x):∃ f:Fd,FdP w.heap.size w cs f:=by
 obtain ⟨y0,y1,y2,y3,y4,n,hl,h0,h1,h2,h3,h4⟩:=trod_struct5 Tryz.underlying40 h
 obtain ⟨c0,c1,c2,c3,c4,rfl⟩:=l5_of (hl.trans sizesA.2.1)
 simp only [sizesA.2.2.2.2.1,sizesA.2.2.2.2.2.1,sizesB.2.2.2.2,List.drop_zero,List.drop_succ_cons,List.take_succ_cons,List.take_zero] at h0 h1 h2 h3 h4
 obtain ⟨a,e0,b0⟩:=int_of h0
 obtain ⟨l1,r1⟩:=ints_of h1
 obtain ⟨l2,r2⟩:=ints_of h2
 obtain ⟨l3,r3⟩:=ints_of h3
 obtain ⟨l4,r4⟩:=sl_of (P:=InsP) Tryz.underlying38 sizesA.2.2.1 (by omega) (fun _ _ _ h=>ins_of h) h4
 simp at e0
 subst e0
 exact ⟨⟨a,l1,l2,l3,l4⟩,c1,c2,c3,c4,rfl,b0,r1,r2,r3,r4⟩
set_option maxRecDepth 100000 in
/-- A program that is an argument. -/
theorem prog_of {base:Nat} {v:Value} {d:DataW H} {p:List MemPlace} (hok:Value.okWide Tryz.prog w .any base 27 v) (h:DataW.Trod enc Tryz.prog w 0 (fun _=>true) true 27 v d p):∃ v1 v2 v3 v4 q,v=.agg #[v1,v2,v3,v4]∧PgAt w.heap.size w v1 v2 v3 v4 q:=by
 obtain ⟨cs,rfl,hcs⟩:=okWide_struct Tryz.underlying27 hok
 obtain ⟨fuel,hf⟩:=h
 obtain ⟨y0,y1,y2,y3,n,hl,h0,h1,h2,h3⟩:=trod_struct4 Tryz.underlying27 hf
 obtain ⟨c0,c1,c2,c3,hcl⟩:=l4_of (hl.trans sizesA.1)
 obtain rfl:cs=#[c0,c1,c2,c3]:=by cases cs;simp [Value.cells] at hcl;simp [hcl]
 rw [hcl] at h0 h1 h2 h3
 simp only [sizesB.1,sizesB.2.1,sizesB.2.2.1,sizesB.2.2.2.1,List.drop_zero,List.drop_succ_cons,List.take_succ_cons,List.take_zero] at h0 h1 h2 h3
 obtain ⟨l1,r1⟩:=sl_of (P:=LstP w.heap.size) Tryz.underlying22 sizesA.2.2.2.1 (by omega) (fun _ _ _ h=>lay_of h) h0
 obtain ⟨l2,r2⟩:=sl_of (P:=FdP w.heap.size) Tryz.underlying23 sizesA.2.1 (by omega) (fun _ _ _ h=>fun_of h) h1
 obtain ⟨l3,r3⟩:=sl_of (P:=LstP w.heap.size) Tryz.underlying24 sizesA.2.2.2.2.2.1 (by omega) (fun _ _ _ h=>tab_of h) h2
 obtain ⟨l4,r4⟩:=sl_of (P:=StrP) Tryz.underlying25 sizesA.2.2.2.2.2.2.1 (by omega) (fun _ _ _ h=>str_of h) h3
 exact ⟨c0,c1,c2,c3,⟨l1,l2,l3,l4⟩,rfl,r1,r2,r3,r4⟩
end
end Go.Proofs.YtkdojpnihinpbaaGreatDoor
