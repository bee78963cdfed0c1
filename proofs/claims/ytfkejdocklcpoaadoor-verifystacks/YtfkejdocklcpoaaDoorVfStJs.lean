/- Stacks: the stacks ahead of each instruction. -/
import Derived.Test.YtfkejdocklcpoaaDoorVfSlJs
import Derived.Test.YtfkejdocklcpoaaDoorVfCmJs
import Derived.Test.YtfkejdocklcpoaaDoorVfAwJs
import Derived.Deep.CutRange
import Derived.Test.YtfkejdocklcpoaaDoorVfTk
namespace Go.Proofs.YtfkejdocklcpoaaDoor
open Go.RowKit
abbrev oSt0 : Oper := { dst := some 19, op := .move (.tmp 7), type := 61, pos := "verify.go:24", after := #[], guard := none }
abbrev oSt1 : Oper := { dst := some 20, op := .nilCheck (.tmp 19), type := 0, pos := "verify.go:24", after := #[{ on := 0, ground := .data }], guard := none }
abbrev oSt2 : Oper := { dst := some 21, op := .fieldAddr 68 (.tmp 20) 3, type := 0, pos := "verify.go:24", after := #[{ on := 1, ground := .data }], guard := none }
abbrev oSt3 : Oper := { dst := some 22, op := .load 64 (.tmp 21), type := 64, pos := "verify.go:24", after := #[{ on := 2, ground := .data }], guard := none }
abbrev oSt4 : Oper := { dst := some 23, op := .call { callee := .builtin .len, args := #[.tmp 22], argTypes := #[64] }, type := 3, pos := "verify.go:24", after := #[{ on := 3, ground := .data }], guard := none }
abbrev oSt5 : Oper := { dst := some 25, op := .move (.tmp 7), type := 61, pos := "verify.go:24", after := #[], guard := none }
abbrev oSt6 : Oper := { dst := some 26, op := .nilCheck (.tmp 25), type := 0, pos := "verify.go:24", after := #[{ on := 6, ground := .data }], guard := none }
abbrev oSt7 : Oper := { dst := some 27, op := .fieldAddr 68 (.tmp 26) 3, type := 0, pos := "verify.go:24", after := #[{ on := 7, ground := .data }], guard := none }
abbrev oSt8 : Oper := { dst := some 28, op := .load 64 (.tmp 27), type := 64, pos := "verify.go:24", after := #[{ on := 8, ground := .data }], guard := none }
abbrev oSt9 : Oper := { dst := some 29, op := .call { callee := .builtin .len, args := #[.tmp 28], argTypes := #[64] }, type := 3, pos := "verify.go:24", after := #[{ on := 9, ground := .data }], guard := none }
abbrev oSt10 : Oper := { dst := some 24, op := .makeSlice 24 (.tmp 23) (.tmp 23), type := 24, pos := "verify.go:24", after := #[{ on := 4, ground := .data }, { on := 4, ground := .data }], guard := none }
abbrev oSt11 : Oper := { dst := some 30, op := .makeSlice 33 (.tmp 29) (.tmp 29), type := 33, pos := "verify.go:24", after := #[{ on := 10, ground := .data }, { on := 10, ground := .data }], guard := none }
abbrev oSt12 : Oper := { dst := some 4, op := .assign (.tmp 24), type := 24, pos := "verify.go:24", after := #[{ on := 5, ground := .data }, { on := 0, ground := .phase }, { on := 1, ground := .phase }, { on := 2, ground := .phase }, { on := 3, ground := .phase }, { on := 4, ground := .phase }, { on := 5, ground := .phase }, { on := 6, ground := .textOnly .lateStores }, { on := 7, ground := .textOnly .lateStores }, { on := 8, ground := .textOnly .lateStores }, { on := 9, ground := .textOnly .lateStores }, { on := 10, ground := .textOnly .lateStoresUnsure }, { on := 11, ground := .textOnly .lateStoresUnsure }], guard := none }
abbrev oSt13 : Oper := { dst := some 5, op := .assign (.tmp 30), type := 33, pos := "verify.go:24", after := #[{ on := 11, ground := .data }, { on := 12, ground := .chain }, { on := 0, ground := .phase }, { on := 1, ground := .phase }, { on := 2, ground := .phase }, { on := 3, ground := .phase }, { on := 4, ground := .phase }, { on := 5, ground := .phase }, { on := 6, ground := .phase }, { on := 7, ground := .phase }, { on := 8, ground := .phase }, { on := 9, ground := .phase }, { on := 10, ground := .phase }, { on := 11, ground := .phase }, { on := 12, ground := .phase }], guard := none }
theorem info_intsD:(Tryd.prog.info? 44).map (fun i=>(i.zero,i.size,i.bytes))=some (some (.slice none 0 0),1,24):=by kernel_rfl
theorem info_boolD:(Tryd.prog.info? 4).map (fun i=>(i.zero,i.size,i.bytes))=some (some (.bool false),1,1):=by kernel_rfl
theorem made_one (v:Value) (n:Nat):madeCells #[v] n=(List.replicate n v).toArray:=by
 apply Array.ext
 · simp [madeCells]
 · intro i h1 h2
   simp [madeCells,Nat.mod_one]
theorem run_intss (w:World) (n:Nat) (hn:n≤65536):(Instr.makeSlice 24 (.int .i64 n) (.int .i64 n)).run Tryd.prog w=.ok (.slice (some ⟨w.heap.size,0,none⟩) n n) (w.alloc (.cells (List.replicate n (Value.slice none 0 0)).toArray 44)):=by
 obtain ⟨i0,hi,hz0,hz1,hz2⟩:=info_parts info_intsD
 have hmk:=run_make (P:=Tryd.prog) w 24 44 i0 (.slice none 0 0) Tryd.underlying24 hi hz0 .i64 .i64 n n (by omega) (Int.le_refl _) (by rw [hz2];omega) (by omega)
 rw [hz1] at hmk
 simp only [Int.toNat_natCast,Nat.mul_one] at hmk
 rw [show (Value.slice none 0 0).cells=#[Value.slice none 0 0] from rfl,made_one] at hmk
 exact hmk
theorem run_bools (w:World) (n:Nat) (hn:n≤65536):(Instr.makeSlice 33 (.int .i64 n) (.int .i64 n)).run Tryd.prog w=.ok (.slice (some ⟨w.heap.size,0,none⟩) n n) (w.alloc (.cells (List.replicate n (Value.bool false)).toArray 4)):=by
 obtain ⟨i0,hi,hz0,hz1,hz2⟩:=info_parts info_boolD
 have hmk:=run_make (P:=Tryd.prog) w 33 4 i0 (.bool false) Tryd.underlying33 hi hz0 .i64 .i64 n n (by omega) (Int.le_refl _) (by rw [hz2];omega) (by omega)
 rw [hz1] at hmk
 simp only [Int.toNat_natCast,Nat.mul_one] at hmk
 rw [show (Value.bool false).cells=#[Value.bool false] from rfl,made_one] at hmk
 exact hmk
theorem list_any {E b:Nat} {Z:Nat→Prop} {s:List Int} {w:World} (P:PileAt Z w E b s) (hs:s.length≤300000000):Calls Tryd.prog 21 #[pp b] w fun e W=>e=.returned (.slice (some ⟨w.heap.size,0,none⟩) s.length s.length)∧W.heap[w.heap.size]?=some (.cells (ivs s).toArray 3 (0,0))∧Below w.heap.size w W:=(list_in (m:=0) P hs).calls FX_room
def LsC (sb cb:Nat) (W:World):Option (List Int)→Value→Prop
  | none,c=>c=.slice none 0 0
  | some s,c=>∃ g,c=.slice (some ⟨g,0,none⟩) s.length s.length∧g≠sb∧g≠cb∧W.heap[g]?=some (.cells (ivs s).toArray 3 (0,0))
structure StR (ah:List (Option (List Int))) (L sb cb k:Nat) (w2 W:World) (scs ccs:List Value):Prop where
  bel:Below w2.heap.size w2 W
  sb1:W.heap[sb]?=some (.cells scs.toArray 44 (0,0))
  cb1:W.heap[cb]?=some (.cells ccs.toArray 4 (0,0))
  sl:scs.length=L
  cl:ccs.length=L
  old:∀ (x:Nat) (o:Option (List Int)),ah[x]?=some o→x<k→(∃ c,scs[x]?=some c∧LsC sb cb W o c)∧ccs[x]?=some (.bool o.isSome)
  new:∀ x,k≤x→x<L→scs[x]?=some (.slice none 0 0)∧ccs[x]?=some (.bool false)
section
variable {ah:List (Option (List Int))} {L sb cb k:Nat} {w2 W W' : World} {scs ccs:List Value}
theorem LsC.keep {o:Option (List Int)} {c:Value} (h:LsC sb cb W o c) (hb:∀ j,j<W.heap.size→j≠sb→j≠cb→W'.heap[j]?=W.heap[j]?):LsC sb cb W' o c:=by
 cases o with
 | none=>exact h
 | some s =>
  obtain ⟨g,h1,h2,h3,h4⟩:=h
  exact ⟨g,h1,h2,h3,(hb g (lt_of_block h4) h2 h3).trans h4⟩
theorem StR.skip (S:StR ah L sb cb k w2 W scs ccs) (hk:ah[k]?=some none) (hL:k<L):StR ah L sb cb (k+1) w2 W scs ccs :=
  ⟨S.bel,S.sb1,S.cb1,S.sl,S.cl,fun x o ho hx=>by
   rcases Nat.lt_or_ge x k with h | h
   · exact S.old x o ho h
   · obtain rfl:x=k:=by omega
     rw [hk] at ho
     cases ho
     obtain ⟨h1,h2⟩:=S.new x (Nat.le_refl _) hL
     exact ⟨⟨_,h1,rfl⟩,h2⟩,fun x h1 h2=>S.new x (by omega) h2⟩
theorem StR.put {s:List Int} (S:StR ah L sb cb k w2 W scs ccs) (hk:ah[k]?=some (some s)) (hL:k<L) (hsc:sb≠cb) (h2:w2.heap.size≤sb) (h3:w2.heap.size≤cb) (hb:Below W.heap.size W W') (hg:W'.heap[W.heap.size]?=some (.cells (ivs s).toArray 3 (0,0))):StR ah L sb cb (k+1) w2 ((W'.setCell ⟨sb,k,none⟩ (.slice (some ⟨W.heap.size,0,none⟩) s.length s.length)).setCell ⟨cb,k,none⟩ (.bool true)) (scs.set k (.slice (some ⟨W.heap.size,0,none⟩) s.length s.length)) (ccs.set k (.bool true)):=by
 have l1:=lt_of_block S.sb1
 have l2:=lt_of_block S.cb1
 have k1:∀ (V:World) (u:Value) j,j≠sb→(V.setCell ⟨sb,k,none⟩ u).heap[j]?=V.heap[j]?:=fun V u j hj=>Below.heap_setCell _ _ _ j hj
 have k2:∀ (V:World) (u:Value) j,j≠cb→(V.setCell ⟨cb,k,none⟩ u).heap[j]?=V.heap[j]?:=fun V u j hj=>Below.heap_setCell _ _ _ j hj
 have q:∀ j,j≠sb→j≠cb→((W'.setCell ⟨sb,k,none⟩ (.slice (some ⟨W.heap.size,0,none⟩) s.length s.length)).setCell ⟨cb,k,none⟩ (.bool true)).heap[j]?=W'.heap[j]?:=fun j hs hc=>(k2 _ _ j hc).trans (k1 _ _ j hs)
 have e1:=(hb.block _ l1).trans S.sb1
 have e2:=(hb.block _ l2).trans S.cb1
 refine ⟨((S.bel.trans (hb.mono (by have:=S.bel.size;omega))).setCell h2 _).setCell h3 _,?_,?_,by simp [S.sl],by simp [S.cl],fun x o ho hx=>?_,fun x hx hxL=>?_⟩
 · rw [k2 _ _ _ hsc,heap_setCell_same _ sb k _ e1,List.setIfInBounds_toArray]
 · rw [heap_setCell_same _ cb k _ ((k1 _ _ _ (Ne.symm hsc)).trans e2),List.setIfInBounds_toArray]
 · rw [List.getElem?_set,List.getElem?_set]
   by_cases h:k=x
   · subst h
     rw [hk] at ho
     cases ho
     rw [if_pos rfl,if_pos (by rw [S.sl];exact hL),if_pos rfl,if_pos (by rw [S.cl];exact hL)]
     exact ⟨⟨_,rfl,W.heap.size,rfl,by omega,by omega,(q _ (by omega) (by omega)).trans hg⟩,rfl⟩
   · rw [if_neg h,if_neg h]
     obtain ⟨⟨c,h1,h2⟩,h3⟩:=S.old x o ho (by omega)
     exact ⟨⟨c,h1,h2.keep fun j hj hs hc=>(q j hs hc).trans (hb.block j hj)⟩,h3⟩
 · rw [List.getElem?_set,List.getElem?_set,if_neg (by omega),if_neg (by omega)]
   exact S.new x (by omega) hxL
theorem ints_block {g:Nat} {s:List Int} (h:W.heap[g]?=some (.cells (ivs s).toArray 3 (0,0))) (hb:∀ x∈s,-9223372036854775808≤x∧x≤9223372036854775807) (hl:s.length≤300000000):SlAt 1 IntP W.heap.size W (.slice (some ⟨g,0,none⟩) s.length s.length) s:=by
 refine ⟨_,_,rfl,⟨by omega,Nat.le_refl _,by unfold maxLen;omega⟩,fun j x hx=>⟨g,0,[.int .i64 x],rfl,lt_of_block h,fun r u hr=>?_,rfl,hb x (List.mem_of_getElem? hx)⟩⟩
 match r,hr with
 | 0,hr =>
  cases hr
  refine cell_of h ?_
  rw [Nat.zero_add,Nat.add_zero,Nat.mul_one,List.getElem?_toArray]
  simp [ivs,hx]
theorem StR.fin (S:StR ah L sb cb L w2 W scs ccs) (hl:ah.length=L) (hL:L≤65536) (hb:∀ (y:Nat) (t:List Int),ah[y]?=some (some t)→(∀ x∈t,-9223372036854775808≤x∧x≤9223372036854775807)∧t.length≤300000000):SlAt 1 (LstP W.heap.size) W.heap.size W (.slice (some ⟨sb,0,none⟩) L L) (ah.map fun o=>o.getD [])∧W.heap[cb]?=some (.cells (ah.map fun o=>Value.bool o.isSome).toArray 4 (0,0)):=by
 refine ⟨⟨_,L,by rw [List.length_map,hl],by rw [List.length_map,hl];exact ⟨by omega,Nat.le_refl _,by unfold maxLen;omega⟩,fun j x hx=>?_⟩,?_⟩
 · rw [List.getElem?_map] at hx
   cases ho:ah[j]? with
   | none=>rw [ho] at hx;cases hx
   | some o =>
    rw [ho] at hx
    cases hx
    obtain ⟨⟨c,h1,h2⟩,_⟩:=S.old j o ho (by have:=get_lt ho;omega)
    refine ⟨sb,0,[c],rfl,lt_of_block S.sb1,fun r u hr=>?_,c,rfl,?_⟩
    · match r,hr with
      | 0,hr =>
       cases hr
       refine cell_of S.sb1 ?_
       rw [Nat.zero_add,Nat.add_zero,Nat.mul_one,List.getElem?_toArray]
       exact h1
    · cases o with
      | none=>cases h2;exact sl_nil
      | some s =>
       obtain ⟨g,rfl,_,_,hg⟩:=h2
       exact ints_block hg (hb j s ho).1 (hb j s ho).2
 · rw [S.cb1]
   congr 3
   apply List.ext_getElem?
   intro j
   rw [List.getElem?_map]
   cases ho:ah[j]? with
   | none =>
    rw [List.getElem?_eq_none_iff] at ho
    rw [List.getElem?_eq_none (by rw [S.cl];omega)]
    rfl
   | some o=>exact (S.old j o ho (by have:=get_lt ho;omega)).2
end
theorem kb_bounds {n:Nat} {k:Int} (hn:n≤1024) (h:isKB n k=true) : -9223372036854775808≤k∧k≤9223372036854775807:=by
 unfold isKB bareK at h
 rw [decide_eq_true_eq] at h
 split at h <;> omega
def StO (p:Pg) (m:Int) (w:World) (e:Ending) (W:World):Prop:=Below w.heap.size w W ∧
  (((checkP p).2.2≠0∧e=.returned (.tuple #[.slice none 0 0,.slice none 0 0,.int .i64 (checkP p).2.2])) ∨
  ((checkP p).2.2=0∧inB m p.fu.length=false∧e=.returned (.tuple #[.slice none 0 0,.slice none 0 0,.int .i64 6])) ∨
  ∃ (k:Nat) (f:Fd) (F:Fl) (sb cb:Nat),(checkP p).2.2=0∧m=(k:Int)∧p.fu[k]?=some f∧followP p f=.ok F∧F.ah.length=f.co.length∧f.co.length≤65536∧e=.returned (.tuple #[.slice (some ⟨sb,0,none⟩) f.co.length f.co.length,.slice (some ⟨cb,0,none⟩) f.co.length f.co.length,.int .i64 0])∧w.heap.size≤sb∧w.heap.size≤cb∧SlAt 1 (LstP W.heap.size) W.heap.size W (.slice (some ⟨sb,0,none⟩) f.co.length f.co.length) (F.ah.map fun o=>o.getD [])∧W.heap[cb]?=some (.cells (F.ah.map fun o=>Value.bool o.isSome).toArray 4 (0,0)))
def StL (ah:List (Option (List Int))) (L sb cb:Nat) (w2:World) (a:Value) (wr:World):Prop:=∃ k:Nat,a=.int .i64 k∧k≤L∧∃ scs ccs,StR ah L sb cb k w2 wr scs ccs
section
variable {B:Nat} {w:World} {p:Pg}
set_option maxRecDepth 100000 in
set_option maxHeartbeats 1000000 in
theorem stacks_any {v1 v2 v3 v4:Value} (P:PgAt B w v1 v2 v3 v4 p) (hB:B≤w.heap.size) (hT:Tb w) (hb0:0<B) (m:Int):Calls Tryd.prog 11 #[.agg #[v1,v2,v3,v4],.int .i64 m] w (StO p m w):=by
 obtain ⟨a1,d1,hv1⟩:=sl_form P.ty
 obtain ⟨a2,d2,hv2⟩:=sl_form P.fu
 obtain ⟨a3,d3,hv3⟩:=sl_form P.ta
 obtain ⟨a4,d4,hv4⟩:=sl_form P.st
 subst hv1 hv2 hv3 hv4
 obtain ⟨W1,hW1⟩ : ∃ W1,w.alloc (.cells #[.slice a1 p.ty.length d1,.slice a2 p.fu.length d2,.slice a3 p.ta.length d3,.slice a4 p.st.length d4] 27)=W1:=⟨_,rfl⟩
 have b1:Below w.heap.size w W1:=by rw [← hW1];exact (Below.refl _ _).alloc (Nat.le_refl _) _
 have e1:W1.heap[w.heap.size]?=some (.cells #[.slice a1 p.ty.length d1,.slice a2 p.fu.length d2,.slice a3 p.ta.length d3,.slice a4 p.st.length d4] 27 (0,0)):=by rw [← hW1];exact heap_new _ _ rfl
 have PW:PgAt B W1 (.slice a1 p.ty.length d1) (.slice a2 p.fu.length d2) (.slice a3 p.ta.length d3) (.slice a4 p.st.length d4) p:=P.keep (Nat.le_refl _) (fun j hj=>b1.block j (Nat.lt_of_lt_of_le hj hB))
 have HSF:=hide (soundFlow_any PW (Nat.le_trans hB b1.size) (hT.keep (b1.block 0 (Nat.lt_of_lt_of_le hb0 hB))) hb0 m)
 have HB1:=hide b1
 have k0:W1.cell? ⟨w.heap.size,0,none⟩=some (.slice a1 p.ty.length d1):=cell_of e1 rfl
 have k1:W1.cell? ⟨w.heap.size,1,none⟩=some (.slice a2 p.fu.length d2):=cell_of e1 rfl
 have k2:W1.cell? ⟨w.heap.size,2,none⟩=some (.slice a3 p.ta.length d3):=cell_of e1 rfl
 have k3:W1.cell? ⟨w.heap.size,3,none⟩=some (.slice a4 p.st.length d4):=cell_of e1 rfl
 clear P hB hT hb0 b1 e1 PW
 go_enter Tryd.func11,Tryd.ntmps11
 go_wp2_with fail
 refine HSF.out.mono ?_
 rintro e w2 ⟨hb2,(⟨hc,rfl⟩ | ⟨hc,hi,rfl⟩ | ⟨k,f,F,A,ahb,wtb,E,V,at_,hc,hm,hf,hF,rfl,hM⟩)⟩
 · have HB2:=hide (bel_tr HB1.out hb2)
   have HC:=hide hc
   obtain ⟨ce,hce⟩ : ∃ c,(checkP p).2.2=c:=⟨_,rfl⟩
   have HF:=hide (show ∀ W,Below w.heap.size w W→StO p m w (.returned (.tuple #[.slice none 0 0,.slice none 0 0,.int .i64 ce])) W from fun W h=>⟨h,.inl ⟨HC.out,by rw [hce]⟩⟩)
   rw [hce] at hc ⊢
   have q0:(ce != 0)=true:=by simpa using hc
   clear hb2 hc hce
   go_wp2
   go_ret3
   exact HF.out _ HB2.out
 · have HB2:=hide (bel_tr HB1.out hb2)
   have HF:=hide (show ∀ W,Below w.heap.size w W→StO p m w (.returned (.tuple #[.slice none 0 0,.slice none 0 0,.int .i64 6])) W from fun W h=>⟨h,.inr (.inl ⟨hc,hi,rfl⟩)⟩)
   clear hb2 hc hi
   go_wp2
   go_ret3
   exact HF.out _ HB2.out
 · obtain ⟨_,o1,o2,_⟩:=check_ok hc
   have H:=hok_of o1 o2
   have hfo:=H.fu f (List.mem_of_getElem? hf)
   have I:=follow_inv H hfo hF
   have HBD:=hide (show ∀ (y:Nat) (t:List Int),F.ah[y]?=some (some t)→(∀ x∈t,-9223372036854775808≤x∧x≤9223372036854775807)∧t.length≤300000000 from fun y t ht=>by
    obtain ⟨h1,h2⟩:=I.st y t ht
    have hn:p.ty.length≤1024:=by
     simp only [sndP,Bool.and_eq_true] at o1
     exact (eachB_le o1.1).1
    have:=hfo.nc
    exact ⟨fun x hx=>kb_bounds hn (h1 x hx),by omega⟩)
   have HF:=hide (show ∀ (W:World) (sb cb:Nat),Below w.heap.size w W→w.heap.size≤sb→w.heap.size≤cb→SlAt 1 (LstP W.heap.size) W.heap.size W (.slice (some ⟨sb,0,none⟩) f.co.length f.co.length) (F.ah.map fun o=>o.getD [])∧W.heap[cb]?=some (.cells (F.ah.map fun o=>Value.bool o.isSome).toArray 4 (0,0))→StO p m w (.returned (.tuple #[.slice (some ⟨sb,0,none⟩) f.co.length f.co.length,.slice (some ⟨cb,0,none⟩) f.co.length f.co.length,.int .i64 0])) W from fun W sb cb h h1 h2 h3=>⟨h,.inr (.inr ⟨k,f,F,sb,cb,hc,hm,hf,hF,I.la,hM.nc,rfl,h1,h2,h3.1,h3.2⟩)⟩)
   have c11:w2.cell? ⟨A,11,none⟩=some (.slice (some ⟨ahb,0,none⟩) f.co.length f.co.length):=by rw [← hM.va];exact cell_of hM.fl.box rfl
   have hlA:=(hM.lt (.inl rfl)).2
   have hlh:=(hM.lt (.inr (.inl rfl))).2
   obtain ⟨hal,cs,hcl,hah,hel⟩:=hM.ah
   have HAH:=hide (show ∀ (W:World),Below w2.heap.size w2 W→∀ (x:Nat) (o:Option (List Int)),F.ah[x]?=some o→∃ c,W.cell? ⟨ahb,x,none⟩=some c∧AhC (Xf A ahb wtb) E W o c from fun W h x o ho=>by
    obtain ⟨c,c1,c2⟩:=hel x o ho
    exact ⟨c,(h.cell (p:=⟨ahb,x,none⟩) hlh).trans (cell_of hah (by rw [List.getElem?_toArray];exact c1)),c2.keep (Kp.of_below h)⟩)
   have HNC:=hide hM.nc
   have HB2:=hide hb2
   have HAL:=hide hal
   clear hb2 hc hm hf hF hM o1 o2 H hfo I hel hah hcl hal k0 k1 k2 k3 hW1 cs
   obtain ⟨L,hL⟩ : ∃ L,f.co.length=L:=⟨_,rfl⟩
   rw [hL] at c11 HF HNC HAL
   clear hL
   have hw2:w.heap.size≤w2.heap.size:=(bel_tr HB1.out HB2.out).size
   go_upto_region 4 with (fail)
   go_cut [4,5] from 19 to 30 (fun x y wc=>Hid (∃ sb cb,x=.slice (some ⟨sb,0,none⟩) L L∧y=.slice (some ⟨cb,0,none⟩) L L∧sb≠cb∧w2.heap.size≤sb∧w2.heap.size≤cb∧StR F.ah L sb cb 0 w2 wc (List.replicate L (.slice none 0 0)) (List.replicate L (.bool false))))
   case first =>
    have HKS:=hide (show ∀ W:World,Below w2.heap.size w2 W→(fun W:World=>W.cell? ⟨A,11,none⟩=some (.slice (some ⟨ahb,0,none⟩) L L)) W from fun W h=>(h.cell (p:=⟨A,11,none⟩) hlA).trans c11)
    have HNW:=hide (show ∀ (W:World) (sb cb:Nat),Below w2.heap.size w2 W→W.heap[sb]?=some (.cells (List.replicate L (Value.slice none 0 0)).toArray 44 (0,0))→W.heap[cb]?=some (.cells (List.replicate L (Value.bool false)).toArray 4 (0,0))→StR F.ah L sb cb 0 w2 W (List.replicate L (.slice none 0 0)) (List.replicate L (.bool false)) from fun W sb cb h h1 h2=>⟨h,h1,h2,by simp,by simp,fun x o _ hx=>absurd hx (by omega),fun x _ hx=>by simp [hx]⟩)
    refine wp_region_held_drew (S:=(fun W:World=>W.cell? ⟨A,11,none⟩=some (.slice (some ⟨ahb,0,none⟩) L L))) (by kernel_rfl) (HKS.out _ (below_drew (Below.refl _ _))) (fun hHeld1=>?_)
    refine tk 0 oSt0 ?v2 ?h2 ?_
    case h2=>(intro W h;(try dsimp only at h);go_simp;try with_reducible rfl)
    try simp only [sp]
    refine tk 1 oSt1 ?v3 ?h3 ?_
    case h3=>(intro W h;(try dsimp only at h);go_simp;try with_reducible rfl)
    try simp only [sp]
    refine tk 2 oSt2 ?v4 ?h4 ?_
    case h4=>(intro W h;(try dsimp only at h);go_simp;try with_reducible rfl)
    try simp only [sp]
    refine tk 3 oSt3 ?v5 ?h5 ?_
    case h5=>(intro W h;(try dsimp only at h);go_simp;try with_reducible rfl)
    try simp only [sp]
    refine tk 4 oSt4 ?v6 ?h6 ?_
    case h6=>(intro W h;(try dsimp only at h);go_simp;try with_reducible rfl)
    try simp only [sp]
    refine tk 6 oSt5 ?v7 ?h7 ?_
    case h7=>(intro W h;(try dsimp only at h);go_simp;try with_reducible rfl)
    try simp only [sp]
    refine tk 7 oSt6 ?v8 ?h8 ?_
    case h8=>(intro W h;(try dsimp only at h);go_simp;try with_reducible rfl)
    try simp only [sp]
    refine tk 8 oSt7 ?v9 ?h9 ?_
    case h9=>(intro W h;(try dsimp only at h);go_simp;try with_reducible rfl)
    try simp only [sp]
    refine tk 9 oSt8 ?v10 ?h10 ?_
    case h10=>(intro W h;(try dsimp only at h);go_simp;try with_reducible rfl)
    try simp only [sp]
    refine tk 10 oSt9 ?v11 ?h11 ?_
    case h11=>(intro W h;(try dsimp only at h);go_simp;try with_reducible rfl)
    try simp only [sp]
    refine wpAnyH_ready (rs:=[5,11]) (by kernel_rfl) (by simp) ?_
    refine AllReadyH.cons (o:=oSt10) rfl (fun K hK=>?_) (AllReadyH.cons (o:=oSt11) rfl (fun K hK=>?_) AllReadyH.nil)
    · have hr:=run_intss w2.drew L HNC.out
      have hx:=hide (heap_new w2.drew (.cells (List.replicate L (Value.slice none 0 0)).toArray 44) rfl)
      have hb:=hide (show Below w2.heap.size w2 (w2.drew.alloc (.cells (List.replicate L (Value.slice none 0 0)).toArray 44)) from (below_drew (Below.refl _ _)).alloc (Nat.le_refl _) _)
      have hz:=hide (show (w2.drew.alloc (.cells (List.replicate L (Value.slice none 0 0)).toArray 44)).heap.size=w2.heap.size+1 by simp)
      generalize w2.drew.alloc (.cells (List.replicate L (Value.slice none 0 0)).toArray 44)=W3 at *
      go_simp
      go_wp2_with fail
      refine hK.out _ _ (HKS.out _ hb.out) (fun hHeld12=>?_)
      clear hK K
      try simp only [sp]
      clear hr
      refine tk 12 oSt12 ?v13 ?h13 ?_
      case h13=>(intro W h;(try dsimp only at h);go_simp;try with_reducible rfl)
      try simp only [sp]
      have hr:=run_bools W3 L HNC.out
      have hy:=hide (heap_new W3 (.cells (List.replicate L (Value.bool false)).toArray 4) rfl)
      have hb4:=hide (show Below w2.heap.size w2 (W3.alloc (.cells (List.replicate L (Value.bool false)).toArray 4)) from hb.out.alloc hb.out.size _)
      have hx4:=hide ((Below.heap_alloc W3 (.cells (List.replicate L (Value.bool false)).toArray 4) _ (lt_of_block hx.out)).trans hx.out)
      generalize W3.alloc (.cells (List.replicate L (Value.bool false)).toArray 4)=W4 at *
      refine wpAnyH_ready (rs:=[11]) (by kernel_rfl) (by simp) ?_
      refine AllReadyH.cons (o:=oSt11) rfl (fun K hK=>?_) AllReadyH.nil
      go_simp
      go_wp2_with fail
      refine hK.out _ _ (HKS.out _ hb4.out) (fun hHeld14=>?_)
      clear hK K
      try simp only [sp]
      clear hr
      refine tk 13 oSt13 ?v15 ?h15 ?_
      case h15=>(intro W h;(try dsimp only at h);go_simp;try with_reducible rfl)
      try simp only [sp]
      refine wpAnyH_done (by kernel_rfl) ?_ _
      go_wp2_with fail
      go_meet
      exact hide ⟨w2.heap.size,W3.heap.size,rfl,rfl,by have:=hz.out;omega,Nat.le_refl _,hb.out.size,HNW.out W4 _ _ hb4.out hx4.out hy.out⟩
    · have hr:=run_bools w2.drew L HNC.out
      have hx:=hide (heap_new w2.drew (.cells (List.replicate L (Value.bool false)).toArray 4) rfl)
      have hb:=hide (show Below w2.heap.size w2 (w2.drew.alloc (.cells (List.replicate L (Value.bool false)).toArray 4)) from (below_drew (Below.refl _ _)).alloc (Nat.le_refl _) _)
      have hz:=hide (show (w2.drew.alloc (.cells (List.replicate L (Value.bool false)).toArray 4)).heap.size=w2.heap.size+1 by simp)
      generalize w2.drew.alloc (.cells (List.replicate L (Value.bool false)).toArray 4)=W3 at *
      go_simp
      go_wp2_with fail
      refine hK.out _ _ (HKS.out _ hb.out) (fun hHeld16=>?_)
      clear hK K
      try simp only [sp]
      clear hr
      have hr:=run_intss W3 L HNC.out
      have hy:=hide (heap_new W3 (.cells (List.replicate L (Value.slice none 0 0)).toArray 44) rfl)
      have hb4:=hide (show Below w2.heap.size w2 (W3.alloc (.cells (List.replicate L (Value.slice none 0 0)).toArray 44)) from hb.out.alloc hb.out.size _)
      have hx4:=hide ((Below.heap_alloc W3 (.cells (List.replicate L (Value.slice none 0 0)).toArray 44) _ (lt_of_block hx.out)).trans hx.out)
      generalize W3.alloc (.cells (List.replicate L (Value.slice none 0 0)).toArray 44)=W4 at *
      refine wpAnyH_ready (rs:=[5]) (by kernel_rfl) (by simp) ?_
      refine AllReadyH.cons (o:=oSt10) rfl (fun K hK=>?_) AllReadyH.nil
      go_simp
      go_wp2_with fail
      refine hK.out _ _ (HKS.out _ hb4.out) (fun hHeld17=>?_)
      clear hK K
      try simp only [sp]
      clear hr
      refine tk 12 oSt12 ?v18 ?h18 ?_
      case h18=>(intro W h;(try dsimp only at h);go_simp;try with_reducible rfl)
      try simp only [sp]
      refine tk 13 oSt13 ?v19 ?h19 ?_
      case h19=>(intro W h;(try dsimp only at h);go_simp;try with_reducible rfl)
      try simp only [sp]
      refine wpAnyH_done (by kernel_rfl) ?_ _
      go_wp2_with fail
      go_meet
      exact hide ⟨W3.heap.size,w2.heap.size,rfl,rfl,by have:=hz.out;omega,hb.out.size,Nat.le_refl _,HNW.out W4 _ _ hb4.out hy.out hx4.out⟩
   case rest =>
    obtain ⟨sb,cb,rfl,rfl,hne,hs1,hs2,S0⟩:=hcut.out
    have HS0:=hide S0
    have c12:wc.cell? ⟨A,11,none⟩=some (.slice (some ⟨ahb,0,none⟩) L L):=(S0.bel.cell (p:=⟨A,11,none⟩) hlA).trans c11
    clear S0 hcut
    go_wp2_with fail
    go_loopw [36] (fun a wr=>StL F.ah L sb cb w2 a wr) (fun a _=>L - (intOf a).toNat)
    case atStart=>exact ⟨0,rfl,Nat.zero_le _,_,_,HS0.out⟩
    case round =>
     obtain ⟨x,rfl,hx,scs,ccs,S⟩:=hrel
     have HS:=hide S
     clear S c12
     by_cases hlt:x<L
     · obtain ⟨o,ho⟩ : ∃ o,F.ah[x]?=some o:=⟨F.ah[x]'(by rw [HAL.out];exact hlt),by simp⟩
       obtain ⟨c,hc,hA⟩:=HAH.out wr HS.out.bel x o ho
       have hlw:ahb<wr.heap.size:=Nat.lt_of_lt_of_le hlh HS.out.bel.size
       have dd1:decide (x<L)=true:=by simpa using hlt
       have dd3:(x:Int)≤65536:=by have:=HNC.out;omega
       cases o with
       | none =>
        obtain rfl:c=.pointer none:=hA
        have HN:=hide (HS.out.skip ho hlt)
        clear ho
        go_wp2
        go_roundw
        case rel=>exact ⟨x+1,by first | exact num_next hlt (by have:=HNC.out;omega) | go_num,hlt,_,_,HN.out⟩
        case measure=>first | exact meas_int hlt (by omega) | (rw [intOf_int,intOf_int];omega)
       | some s =>
        obtain ⟨b,rfl,hP⟩:=hA
        have HO:=hide ho
        have HLI:=hide (list_any hP (HBD.out x s ho).2)
        have hls:sb<wr.heap.size:=lt_of_block HS.out.sb1
        have hlc:cb<wr.heap.size:=lt_of_block HS.out.cb1
        have hsz:x<scs.length:=by rw [HS.out.sl];exact hlt
        have hcz:x<ccs.length:=by rw [HS.out.cl];exact hlt
        have HC:=hide (show ∀ W:World,Below wr.heap.size wr W→W.cell? ⟨sb,x,none⟩=some (scs[x])∧W.frozen? ⟨sb,x,none⟩=false∧∀ u,(W.setCell ⟨sb,x,none⟩ u).cell? ⟨cb,x,none⟩=some (ccs[x])∧(W.setCell ⟨sb,x,none⟩ u).frozen? ⟨cb,x,none⟩=false from fun W h=>by
         have g1:=(h.block _ hls).trans HS.out.sb1
         have g2:=(h.block _ hlc).trans HS.out.cb1
         have g3:∀ u,(W.setCell ⟨sb,x,none⟩ u).heap[cb]?=some (.cells ccs.toArray 4 (0,0)):=fun u=>(Below.heap_setCell _ _ _ cb (Ne.symm hne)).trans g2
         exact ⟨cell_of g1 (by simp),by simp [World.frozen?,g1],fun u=>⟨cell_of (g3 u) (by simp),by simp [World.frozen?,g3 u]⟩⟩)
        clear ho hP
        go_wp2_with fail
        refine HLI.out.mono ?_
        rintro e w5 ⟨rfl,hg5,hb5⟩
        have HN:=hide (HS.out.put HO.out hlt hne hs1 hs2 hb5 hg5)
        obtain ⟨y1,y2,y3⟩:=HC.out w5 hb5
        obtain ⟨y4,y5⟩:=y3 (.slice (some ⟨wr.heap.size,0,none⟩) s.length s.length)
        clear hg5 hb5 y3
        go_wp2
        go_roundw
        case rel=>exact ⟨x+1,by first | exact num_next hlt (by have:=HNC.out;omega) | go_num,hlt,_,_,HN.out⟩
        case measure=>first | exact meas_int hlt (by omega) | (rw [intOf_int,intOf_int];omega)
     · obtain rfl:L=x:=by omega
       have dd1:decide (L<L)=false:=by simp
       have HE:=hide (HF.out wr sb cb (bel_tr (bel_tr HB1.out HB2.out) HS.out.bel) (by omega) (by omega) (HS.out.fin HAL.out HNC.out HBD.out))
       go_wp2
       go_ret3
       exact HE.out
end
end Go.Proofs.YtfkejdocklcpoaaDoor
