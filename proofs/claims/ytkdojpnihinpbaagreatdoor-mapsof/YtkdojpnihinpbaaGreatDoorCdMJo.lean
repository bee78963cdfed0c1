/- Programs of the machine, their bytes, and how these are written: plain. -/
import Derived.Lib.UnsafeStr
import Derived.Test.YtkdojpnihinpbaaGreatDoorChecked
import Derived.WalkSpells
import Derived.WalkLawsBesides
import Derived.Handy
import Derived.Deep.Draws
import Derived.Deep.AppendLies
import Derived.Deep.QuietTactic
import Derived.BigQuiet
import Derived.Deep.RegionHeld3
import Derived.Deep.RegionLaw
import Derived.Deep.CutRange
import Derived.Deep.LoopGhost
import Derived.Lib.SliceRun
import Derived.Lib.AppendStr
import Derived.RangeFuncNested
import Derived.RangeFuncBound
import Derived.RangeFuncCalls
import Derived.RangeFuncLeaves
import Derived.RangeFuncRecord
import Derived.Shelf.Abstract
import Derived.Shelf.RegionOpen
import Derived.WalkKit
import Derived.OwnWalkIn
import Derived.TacticsInMore
import Derived.LoopNIn
import Derived.LoopIn
namespace Go.Proofs.YtkdojpnihinpbaaGreatDoor
abbrev By:=List UInt8
structure In3 where
  o:Int
  a:Int
  b:Int
structure Fd where
  pa:Int
  lo:List Int
  re:List Int
  ar:List Int
  co:List In3
structure Pg where
  ty:List (List Int)
  fu:List Fd
  ta:List (List Int)
  st:List By
end Go.Proofs.YtkdojpnihinpbaaGreatDoor

namespace Go.Proofs.YtkdojpnihinpbaaGreatDoor
open Go.RowKit
theorem hide {p:Prop} (h:p):Hid p:=h
theorem lt_of_block {w:World} {b:Nat} {o:Obj} (h:w.heap[b]?=some o):b<w.heap.size:=by
 rcases Nat.lt_or_ge b w.heap.size with h1 | h1
 · exact h1
 · rw [Array.getElem?_eq_none h1] at h;cases h
theorem get_lt {α:Type} {l:List α} {i:Nat} {x:α} (h:l[i]?=some x):i<l.length:=by
 rcases Nat.lt_or_ge i l.length with h1 | h1
 · exact h1
 · rw [List.getElem?_eq_none h1] at h;cases h
theorem heap_setCell_same (w:World) (b o:Nat) (u:Value) {c:Array Value} {t:TypeId} {f:Nat × Nat} (hb:w.heap[b]?=some (.cells c t f)) :
    (w.setCell ⟨b,o,none⟩ u).heap[b]?=some (.cells (c.setIfInBounds o u) t f):=by
  simp [World.setCell,Array.getElem?_modify,hb]
theorem heap_new (w:World) (o:Obj) {j:Nat} (h:j=w.heap.size):(w.alloc o).heap[j]?=some o:=by subst h;exact (MapKept.heap_alloc w o).1
theorem below_drewN {B:Nat} {a w:World} (h:Below B a w) (q:Nat):Below B a (w.drewN q):=⟨h.os,h.tape,h.output,h.size,h.block⟩
theorem below_drew {B:Nat} {a w:World} (h:Below B a w):Below B a w.drew:=⟨h.os,h.tape,h.output,h.size,h.block⟩
theorem cell_of {w:World} {b o:Nat} {c:Array Value} {t:TypeId} {f:Nat × Nat} {u:Value} (h:w.heap[b]?=some (.cells c t f)) (hu:c[o]?=some u):w.cell? ⟨b,o,none⟩=some u:=by simp [World.cell?,h,hu]
theorem ownsRow_keep {w w' : World} {base:Nat} {e:TypeId} {size:Nat} {v:Value} {n:Nat} {xs:List Value} (h:w.ownsRow base e size v n xs) (hk:∀ g,v.ownBlock=some g→w'.heap[g]?=w.heap[g]?):w'.ownsRow base e size v n xs:=by
 refine ⟨h.1,?_⟩
 rcases h.2 with h2 | ⟨g,cap,cur,rfl,h1,h2,h3⟩
 · exact .inl h2
 · exact .inr ⟨g,cap,cur,rfl,h1,(hk g rfl).trans h2,h3⟩
theorem wpList_append_eq {P:Program} {w:World} {ops:Array Oper} {rest:List Oper} {o:Oper} {a:Act} {Q:Exit→Act→World→Prop} (hgd:o.guard=none) (s x:Operand) (t t2:TypeId)
    (ho:o.op=.call { callee:=.builtin .append,args:=#[s,x],argTypes:=#[t,t2] }) {v1 v2 v:Value} {w' : World} (hs:a.eval s=v1) (hx:a.eval x=v2) (hr:(Builtin.append_ #[t,t2] o.type #[v1,v2]).run P w=.ok v w')
    (h:wpList P ops Q rest (a.put o.dst v) w'):wpList P ops Q (o :: rest) a w:=by
  refine wpList_plain hgd fun _ hK=>?_
  unfold Oper.wp execOp
  simp only [ho,resolve,invoke,builtin,Sem.run_bind,Sem.run_pure,Result.andThen_ok,List.map_toArray,List.map_cons,List.map_nil,hs,hx,hr]
  exact hK _ _ h
theorem step_append_eq {P:Program} {w:World} {ops:Array Oper} {o:Oper} {a:Act} {K:Act→World→Prop} {Q:Exit→Act→World→Prop} {E:Prop} (hgd:o.guard=none) (s x:Operand) (t t2:TypeId)
    (ho:o.op=.call { callee:=.builtin .append,args:=#[s,x],argTypes:=#[t,t2] }) {v1 v2 v:Value} {w' : World} (hs:a.eval s=v1) (hx:a.eval x=v2) (hr:(Builtin.append_ #[t,t2] o.type #[v1,v2]).run P w=.ok v w')
    (h:K (a.put o.dst v) w'):if Region.wanted o (yielded ops a.tmps)=true then Oper.wp P o a w K Q else E:=by
  have hw:Region.wanted o (yielded ops a.tmps)=true:=by simp [Region.wanted,hgd]
  rw [if_pos hw]
  unfold Oper.wp execOp
  simp only [ho,resolve,invoke,builtin,Sem.run_bind,Sem.run_pure,Result.andThen_ok,List.map_toArray,List.map_cons,List.map_nil,hs,hx,hr]
  exact h
theorem row_form {w:World} {base e n:Nat} {v:Value} {xs:List Value} {sz:Nat} (h:w.ownsRow base e sz v n xs):∃ a c,v=.slice a n c:=by
 rcases h.2 with ⟨h1,h2⟩ | ⟨g,c,_,h1,_⟩
 · exact ⟨none,0,by rw [h1,h2]⟩
 · exact ⟨_,c,h1⟩
def SlAt {α:Type} (k:Nat) (P:World→List Value→α→Prop) (B:Nat) (w:World) (v:Value) (l:List α):Prop :=
  ∃ ao cap,v=.slice ao l.length cap∧(l.length≤9223372036854775807∧l.length≤cap∧cap≤maxLen)∧∀ j x,l[j]?=some x→∃ g o cs,ao=some ⟨g,o,none⟩∧g<B∧(∀ r u,cs[r]?=some u→w.cell? ⟨g,o+j*k+r,none⟩=some u)∧P w cs x
def IntP (_:World) (cs:List Value) (n:Int):Prop:=cs=[.int .i64 n]∧-9223372036854775808≤n∧n≤9223372036854775807
def StrP (_:World) (cs:List Value) (s:By):Prop:=cs=[.string ⟨s.toArray⟩]
def LstP (B:Nat) (w:World) (cs:List Value) (l:List Int):Prop:=∃ v,cs=[v]∧SlAt 1 IntP B w v l
def InsP (_:World) (cs:List Value) (i:In3):Prop:=cs=[.int .i64 i.o,.int .i64 i.a,.int .i64 i.b]∧(-9223372036854775808≤i.o∧i.o≤9223372036854775807)∧(-9223372036854775808≤i.a∧i.a≤9223372036854775807)∧(-9223372036854775808≤i.b∧i.b≤9223372036854775807)
def FdP (B:Nat) (w:World) (cs:List Value) (f:Fd):Prop:=∃ v1 v2 v3 v4,cs=[.int .i64 f.pa,v1,v2,v3,v4]∧(-9223372036854775808≤f.pa∧f.pa≤9223372036854775807)∧SlAt 1 IntP B w v1 f.lo∧SlAt 1 IntP B w v2 f.re∧SlAt 1 IntP B w v3 f.ar∧SlAt 3 InsP B w v4 f.co
structure PgAt (B:Nat) (w:World) (v1 v2 v3 v4:Value) (p:Pg):Prop where
  ty:SlAt 1 (LstP B) B w v1 p.ty
  fu:SlAt 5 (FdP B) B w v2 p.fu
  ta:SlAt 1 (LstP B) B w v3 p.ta
  st:SlAt 1 StrP B w v4 p.st
section
variable {w w' : World} {B:Nat}
theorem SlAt.keep {α:Type} {k:Nat} {P P' : World→List Value→α→Prop} {v:Value} {l:List α} (R:SlAt k P B w v l) {B' : Nat} (hB:B≤B') (h:∀ j,j<B→w'.heap[j]?=w.heap[j]?) (hP:∀ cs x,P w cs x→P' w' cs x):SlAt k P' B' w' v l:=by
 obtain ⟨ao,cap,h1,h2,h3⟩:=R
 refine ⟨ao,cap,h1,h2,fun j x hx=>?_⟩
 obtain ⟨g,o,cs,h4,h5,h6,h7⟩:=h3 j x hx
 exact ⟨g,o,cs,h4,Nat.lt_of_lt_of_le h5 hB,fun r u hu=>by rw [World.cell?_of_block (a:=⟨g,o+j*k+r,none⟩) (h g h5)];exact h6 r u hu,hP cs x h7⟩
variable {B' : Nat} (hB:B≤B') (h:∀ j,j<B→w'.heap[j]?=w.heap[j]?)
include hB h
theorem ints_keep {v:Value} {l:List Int} (R:SlAt 1 IntP B w v l):SlAt 1 IntP B' w' v l:=R.keep hB h fun _ _ h=>h
theorem strs_keep {v:Value} {l:List By} (R:SlAt 1 StrP B w v l):SlAt 1 StrP B' w' v l:=R.keep hB h fun _ _ h=>h
theorem ins_keep {v:Value} {l:List In3} (R:SlAt 3 InsP B w v l):SlAt 3 InsP B' w' v l:=R.keep hB h fun _ _ h=>h
theorem lsts_keep {v:Value} {l:List (List Int)} (R:SlAt 1 (LstP B) B w v l):SlAt 1 (LstP B') B' w' v l:=R.keep hB h fun _ _ ⟨u,h1,h2⟩=>⟨u,h1,ints_keep hB h h2⟩
theorem fds_keep {v:Value} {l:List Fd} (R:SlAt 5 (FdP B) B w v l):SlAt 5 (FdP B') B' w' v l:=R.keep hB h fun _ _ ⟨a,b,c,d,h1,h2,h3,h4,h5,h6⟩=>⟨a,b,c,d,h1,h2,ints_keep hB h h3,ints_keep hB h h4,ints_keep hB h h5,ins_keep hB h h6⟩
theorem PgAt.keep {v1 v2 v3 v4:Value} {p:Pg} (R:PgAt B w v1 v2 v3 v4 p):PgAt B' w' v1 v2 v3 v4 p:=⟨lsts_keep hB h R.ty,fds_keep hB h R.fu,lsts_keep hB h R.ta,strs_keep hB h R.st⟩
end
theorem wrap_next {j n:Nat} (h:j<n) (hn:n≤9223372036854775807):wrap64 ((j:Int)+1)=((j+1:Nat):Int):=by
 have h1:(j:Int)<9223372036854775807:=by omega
 clear h hn
 go_arith
theorem num_next {j n:Nat} (h:j<n) (hn:n≤9223372036854775807):Value.int .i64 (wrap64 ((j:Int)+1))=.int .i64 ((j+1:Nat):Int):=by rw [wrap_next h hn]
theorem meas_next {j n:Nat} (h:j<n) (hn:n≤9223372036854775807):n - (wrap64 ((j:Int)+1)).toNat<n - j:=by rw [wrap_next h hn,Int.toNat_natCast];omega
theorem intOf_int (x:Int):intOf (Value.int .i64 x)=x:=rfl
theorem meas_int {j n:Nat} (h:j<n) (hn:n≤9223372036854775807):n - (intOf (Value.int .i64 (wrap64 ((j:Int)+1)))).toNat<n - (intOf (Value.int .i64 (j:Int))).toNat:=by
 rw [wrap_next h hn,intOf_int,intOf_int,Int.toNat_natCast,Int.toNat_natCast]
 omega
theorem bxi (w:World) (i:In3):∃ W1,w.alloc (.cells #[.int .i64 i.o,.int .i64 i.a,.int .i64 i.b] 46)=W1∧Below w.heap.size w W1∧W1.heap[w.heap.size]?=some (.cells #[.int .i64 i.o,.int .i64 i.a,.int .i64 i.b] 46 (0,0)):=⟨_,rfl,(Below.refl _ _).alloc (Nat.le_refl _) _,heap_new _ _ rfl⟩
end Go.Proofs.YtkdojpnihinpbaaGreatDoor

namespace Go.Proofs.YtkdojpnihinpbaaGreatDoor
open Go.RowKit Go.Shelf
def rpost (P:Program) (l:Nat) (R:Ending→World→Prop):Exit→Act→World→Prop
  | .normal,_,w=>∃ v w',(Instr.endRound l none).run P w=.ok v w'∧R (.returned v) w'
  | .ret,_,w=>∃ v w',(Instr.endRound l (some .ret)).run P w=.ok v w'∧R (.returned v) w'
  | .panic chain,a,w=>a.defers=[]∧R (.panicked chain) w
  | _,_,_=>False
section
variable {F:Fence} {n:Nat} {P:Program}
theorem round_of {l:Nat} {f:FuncId} {fn:Func} {tmps:Array Value} {assign body:Code} {w:World} {R:Ending→World→Prop} (hF:F.fn f) (hf:P.funcs[f]?=some fn)
    (h:assign.wpIn (F.inRound l) n P (Exit.then (fun a₁ w₁=>∃ w₂,(Instr.beginRound l).run P w₁=.ok () w₂∧body.wpIn (F.inRound l) n P (rpost P l R) a₁ w₂) (fun _ _ _=>False)) { tmps:=tmps,defers:=[] } w) :
    RoundIn F n P l f tmps assign body w R:=by
  refine ⟨hF,fun c cs hr=>?_⟩
  obtain ⟨b,hb⟩ : ∃ b:Frame,b={ (default:Frame) with fn:=f,kind:=.normal,roundOf:=some l }:=⟨_,rfl⟩
  have b1:b.roundOf=some l:=by rw [hb]
  have b2:b.kind=.normal:=by rw [hb]
  have b3:b.fn=f:=by rw [hb]
  have b0:Frame.round l f tmps assign body .normal=b.atR { tmps:=tmps,defers:=[] } [.code assign,.beginRound,.code body]:=by rw [hb];simp [Frame.round,Frame.atR]
  have hF' : (F.inRound l).fn b.fn:=by rw [b3];exact hF
  obtain ⟨e,a₁,w₁,hq,harr⟩:=h b [.beginRound,.code body] (c :: cs) b1 hF' hr
  rw [← b0] at harr
  cases e with
  | normal =>
   obtain ⟨w₂,hbr,hbody⟩:=hq
   have s1:StepsIn (Machine.fenced P (F.inRound l)) P (lone (b.atR a₁ [.beginRound,.code body]) (c :: cs) w₁) (lone (b.atR a₁ [.code body]) (c :: cs) w₂) :=
     .one (fenced_calm (fr:=b.atR a₁ [.beginRound,.code body]) hF' hr rfl) (stepR_beginRound b1 hbr)
   have s01:=StepsIn.trans harr s1
   obtain ⟨e₂,a₂,w₃,hq₂,harr₂⟩:=hbody b [] (c :: cs) b1 hF' hr
   cases e₂ with
   | normal =>
    obtain ⟨v,w₄,hend,hR⟩:=hq₂
    exact ⟨.returned v,w₄,hR,s01.trans (StepsIn.trans harr₂ (.one (fenced_calm (fr:=b.atR a₂ []) hF' hr rfl) (stepR_round_end b1 b2 hend)))⟩
   | ret =>
    obtain ⟨v,w₄,hend,hR⟩:=hq₂
    obtain ⟨k₁,hs⟩:=harr₂.2 (by rw [b1];rfl)
    exact ⟨.returned v,w₄,hR,s01.trans (StepsIn.trans hs (.one (fenced_calm (fr:=b.atR a₂ (.code .ret :: k₁)) hF' hr rfl) (stepR_round_ret b1 b2 hend)))⟩
   | panic chain =>
    obtain ⟨hd,hR⟩:=hq₂
    obtain ⟨todo,hs⟩:=harr₂
    have hl:Frame.leaving P { b.atR a₂ todo with mode:=.panicking chain } w₃ (.panicked chain):=⟨rfl,hd,fn,by show P.funcs[b.fn]?=some fn;rw [b3];exact hf⟩
    exact ⟨.panicked chain,w₃,hR,s01.trans (StepsIn.trans hs (.one (fenced_leaving (F:=F.inRound l) hF' hr hl) (step_leave_panicked hl)))⟩
   | exit id=>exact hq₂.elim
   | goto t=>exact hq₂.elim
   | outgrown=>exact hq₂.elim
  | exit id=>exact hq.elim
  | goto t=>exact hq.elim
  | ret=>exact hq.elim
  | panic chain=>exact hq.elim
  | outgrown=>exact hq.elim
def recL (fn:FuncId) (tmps:Array Value) (ps:Array Tmp) (assign body:Code) (D:Nat) (st:LoopState) (pe:Option Code):Loop:={ state:=st,pending:=pe,fn:=fn,tmps:=tmps,params:=ps,assign:=assign,body:=body,defers:=D }
def bpost (l:Nat) (r:LoopState→Option Code→Loop) (R:Ending→World→Prop):Exit→Act→World→Prop
  | .normal,_,w=>w.heap[l]?=some (.loop (r .busy none))∧R (.returned (.bool true)) (w.putObj l (.loop (r .ready none)))
  | .ret,_,w=>w.heap[l]?=some (.loop (r .busy none))∧R (.returned (.bool false)) (w.putObj l (.loop (r .done (some .ret))))
  | .panic chain,a,w=>a.defers=[]∧R (.panicked chain) w
  | _,_,_=>False
theorem yield_of {l:Nat} {f:FuncId} {fn:Func} {tmps:Array Value} {ps:Array Tmp} {assign body:Code} {D:Nat} {W:World} {args:Array Value} {R:Ending→World→Prop} (hF:F.fn f) (hf:P.funcs[f]?=some fn)
    (hl:W.heap[l]?=some (.loop (recL f tmps ps assign body D .ready none))) (hs:args.size=ps.size) {a₁:Act}
    (hassign:∀ (K:Act→World→Prop),K a₁ W→assign.wpIn (F.inRound l) n P (Exit.then K (fun _ _ _=>False)) { tmps:=(ps.zip args).foldl (fun t (p,v)=>t.setIfInBounds p v) tmps,defers:=[] } W)
    (hbody:body.wpIn (F.inRound l) n P (bpost l (recL f tmps ps assign body D) R) a₁ (W.putObj l (.loop (recL f tmps ps assign body D .busy none)))) :
    YieldAt F n P l args W R:=by
  have hy:=run_yield (P:=P) (args:=args) hl hs
  refine ⟨f,_,assign,body,hy,round_of hF hf (hassign _ ⟨_,run_beginRound hl rfl,wpIn_mono hbody ?_⟩)⟩
  rintro e a3 W3 hp
  cases e with
  | normal=>exact ⟨_,_,run_endRound none hp.1,hp.2⟩
  | ret=>exact ⟨_,_,run_endRound (some .ret) hp.1,hp.2⟩
  | panic ch=>exact hp
  | exit id=>exact hp.elim
  | goto t=>exact hp.elim
  | outgrown=>exact hp.elim
theorem range_of {g:Operand} {ps:Array Tmp} {assign body:Code} {Q:Exit→Act→World→Prop} {a:Act} {w:World} (hro:F.round=none) (h1:F.depth.isSome=true→1≤n) {gf:Nat} {lb:Array Value} (hg:a.eval g=.func (.func gf) #[] lb) (hFg:F.fn gf) (eg:∀ args w,(callFunc gf args).run P w=.ok (.enter gf args) w)
    (h:∀ fn,F.fn fn→CallsIn F (n - 1) P gf (#[.func (.yield (w.heap.size+1)) #[] #[]]++lb) ((w.alloc (.deferred (some []))).alloc (.loop (recL fn a.tmps ps assign body w.heap.size .ready none))) fun e W' =>
      (∃ v,e=.returned v∧W'.heap[w.heap.size+1]?=some (.loop (recL fn a.tmps ps assign body w.heap.size .ready none))∧Q .normal { a with defers:={ target:=.collected w.heap.size,args:=#[] } :: a.defers } (W'.putObj (w.heap.size+1) (.loop (recL fn a.tmps ps assign body w.heap.size .exhausted none)))) ∨
      (∃ v,e=.returned v∧W'.heap[w.heap.size+1]?=some (.loop (recL fn a.tmps ps assign body w.heap.size .done (some .ret)))∧Code.ret.wpIn F n P Q { a with defers:={ target:=.collected w.heap.size,args:=#[] } :: a.defers } (W'.putObj (w.heap.size+1) (.loop (recL fn a.tmps ps assign body w.heap.size .exhausted (some .ret))))) ∨
      (∃ ch,e=.panicked ch∧Q (.panic ch) { a with defers:={ target:=.collected w.heap.size,args:=#[] } :: a.defers } W')) :
    (Code.rangeFunc g ps assign body).wpIn F n P Q a w:=by
  refine wpIn_rangeFunc fun fn hfn=>?_
  rw [hro]
  have h':=h fn hfn
  obtain ⟨W1,hW1⟩ : ∃ W1,(w.alloc (.deferred (some []))).alloc (.loop (recL fn a.tmps ps assign body w.heap.size .ready none))=W1:=⟨_,rfl⟩
  rw [hW1] at h'
  have e1:(Instr.enterLoop fn a.tmps ps assign body none).run P w=.ok (w.heap.size+1,[{ target:=.collected w.heap.size,args:=#[] }]) W1:=by rw [← hW1];exact run_enterLoop_outer _ _ _ _ _
  have e2:(resolve a.eval (rangeCall g (w.heap.size+1)) 0).run P W1=.ok { target:=.fn (.func gf) lb,args:=#[.func (.yield (w.heap.size+1)) #[] #[]] } W1:=by
   simp only [resolve,hg]
   simp [go_sem]
  have e3:(invoke (.fn (.func gf) lb) #[.func (.yield (w.heap.size+1)) #[] #[]]).run P W1=.ok (.enter gf (#[.func (.yield (w.heap.size+1)) #[] #[]]++lb)) W1:=by simp [invoke,go_sem,eg]
  refine ⟨w.heap.size+1,[{ target:=.collected w.heap.size,args:=#[] }],W1,{ target:=.fn (.func gf) lb,args:=#[.func (.yield (w.heap.size+1)) #[] #[]] },W1,gf,#[.func (.yield (w.heap.size+1)) #[] #[]]++lb,W1,e1,e2,?_,e3,h1,?_⟩
  · intro f' hf';simp [Target.leads] at hf';subst hf';exact hFg
  · refine CallsIn.mono h' ?_
    rintro e W' (⟨v,rfl,hl,hq⟩ | ⟨v,rfl,hl,hq⟩ | ⟨ch,rfl,hq⟩)
    · exact ⟨none,_,run_endLoop hl (by simp [recL]),hq⟩
    · exact ⟨some .ret,_,run_endLoop hl (by simp [recL]),hq⟩
    · exact hq
end
end Go.Proofs.YtkdojpnihinpbaaGreatDoor
