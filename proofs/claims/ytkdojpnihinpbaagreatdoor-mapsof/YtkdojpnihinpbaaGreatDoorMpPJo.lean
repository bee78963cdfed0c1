/- Which kinds are pointers: of a list, of a pile. -/
import Derived.Test.YtkdojpnihinpbaaGreatDoorVfHJo
namespace Go.Proofs.YtkdojpnihinpbaaGreatDoor
set_option maxRecDepth 100000
set_option maxHeartbeats 2000000
open Go.RowKit Go.Shelf
attribute [local go_sem] Oper.semAt_some
theorem info_boolW:(Tryz.prog.info? 4).map (fun i=>(i.zero,i.size,i.bytes))=some (some (.bool false),1,1):=by kernel_rfl
theorem made_bool (n:Nat):madeCells #[Value.bool false] n=(List.replicate n (Value.bool false)).toArray:=by
 apply Array.ext
 · simp [madeCells]
 · intro i h1 h2
   simp [madeCells,Nat.mod_one]
theorem run_boolsW (w:World) (n:Nat) (hn:n≤300000000):(Instr.makeSlice 47 (.int .i64 n) (.int .i64 n)).run Tryz.prog w=.ok (.slice (some ⟨w.heap.size,0,none⟩) n n) (w.alloc (.cells (List.replicate n (Value.bool false)).toArray 4)):=by
 obtain ⟨i0,hi,hz0,hz1,hz2⟩:=info_parts info_boolW
 have hmk:=run_make (P:=Tryz.prog) w 47 4 i0 (.bool false) Tryz.underlying47 hi hz0 .i64 .i64 n n (by omega) (Int.le_refl _) (by rw [hz2];omega) (by omega)
 rw [hz1] at hmk
 simp only [Int.toNat_natCast,Nat.mul_one] at hmk
 rw [show (Value.bool false).cells=#[Value.bool false] from rfl,made_bool] at hmk
 exact hmk
abbrev bvM (l:List Bool):List Value:=l.map Value.bool
def nzs (s:List Int):List Bool:=s.map fun k=>k != 0
theorem nzs_len (s:List Int):(nzs s).length=s.length:=List.length_map _
def blL (q:List Bool) (k:Nat):List Bool:=List.replicate (q.length - k) false++q.drop (q.length - k)
theorem blL_len (q:List Bool) (k:Nat):(blL q k).length=q.length:=by
 unfold blL
 rw [List.length_append,List.length_replicate,List.length_drop]
 omega
theorem blL_zero (s:List Int):(bvM (blL (nzs s) 0)).toArray=(List.replicate s.length (Value.bool false)).toArray:=by
 unfold blL
 rw [nzs_len,Nat.sub_zero,List.drop_eq_nil_of_le (Nat.le_of_eq (nzs_len s)),List.append_nil]
 simp [bvM]
theorem blL_all (s:List Int):blL (nzs s) s.length=nzs s:=by
 unfold blL
 rw [nzs_len,Nat.sub_self]
 simp
theorem blL_next {s:List Int} {k:Nat} {x:Int} (hk:k<s.length) (hx:s[s.length - 1 - k]?=some x):(bvM (blL (nzs s) k)).toArray.setIfInBounds (s.length - 1 - k) (.bool (x != 0))=(bvM (blL (nzs s) (k+1))).toArray:=by
 rw [List.setIfInBounds_toArray]
 congr 1
 have hn:(nzs s)[s.length - 1 - k]?=some (x != 0):=by unfold nzs;rw [List.getElem?_map,hx];rfl
 have:blL (nzs s) (k+1)=(blL (nzs s) k).set (s.length - 1 - k) (x != 0):=by
  apply List.ext_getElem?
  intro i
  rw [List.getElem?_set]
  unfold blL
  rw [nzs_len]
  have e1:s.length - (k+1)=s.length - 1 - k:=by omega
  rw [e1]
  have hlen:(List.replicate (s.length - k) false++(nzs s).drop (s.length - k)).length=s.length:=by rw [List.length_append,List.length_replicate,List.length_drop,nzs_len];omega
  rw [hlen]
  by_cases h1:s.length - 1 - k=i
  · subst h1
    rw [if_pos rfl,if_pos (by omega),List.getElem?_append_right (by simp),List.length_replicate,Nat.sub_self,List.getElem?_drop,Nat.add_zero,hn]
  · rw [if_neg h1]
    rcases Nat.lt_or_ge i (s.length - 1 - k) with h2 | h2
    · rw [List.getElem?_append_left (by simp;omega),List.getElem?_append_left (by simp;omega),List.getElem?_replicate,List.getElem?_replicate,if_pos (by omega),if_pos (by omega)]
    · rw [List.getElem?_append_right (by simp;omega),List.getElem?_append_right (by simp;omega),List.length_replicate,List.length_replicate,List.getElem?_drop,List.getElem?_drop]
      congr 1
      omega
 unfold bvM
 rw [this,List.map_set]
structure PsS (s:List Int) (w:World) (B D2:Nat) (k:Nat) (W:World):Prop where
  e0:W.heap[B]?=some (.cells (bvM (blL (nzs s) k)).toArray 4 (0,0))
  e1:W.heap[B+1]?=some (.cells #[.slice (some ⟨B,0,none⟩) s.length s.length] 47 (0,0))
  d2:W.heap[D2]?=some (.deferred (some []))
  kp:Below B w W
theorem PsS.keep {s:List Int} {w:World} {B D2 k:Nat} {W W' : World} (S:PsS s w B D2 k W) (hD:B+1<D2) {Q:Nat→Prop} (h:Kp Q W W') (hQ:∀ j,Q j→D2<j):PsS s w B D2 k W':=by
 have l0:=lt_of_block S.e0
 have l1:=lt_of_block S.e1
 have ld:=lt_of_block S.d2
 have hb:∀ j,j≤D2→j<W.heap.size→W'.heap[j]?=W.heap[j]?:=fun j h1 h2=>h.block j h2 (fun hq=>by have:=hQ j hq;omega)
 exact ⟨(hb _ (by omega) l0).trans S.e0,(hb _ (by omega) l1).trans S.e1,(hb _ (Nat.le_refl _) ld).trans S.d2,S.kp.trans ⟨h.os,h.tape,h.output,h.size,fun j hj=>hb j (by omega) (by omega)⟩⟩
section
variable {m E b:Nat} {Z:Nat→Prop} {s:List Int} {w:World}
theorem ptrsOf_in (P:PileAt Z w E b s) (hs:s.length≤300000000) :
    CallsIn FX m Tryz.prog 12 #[pp b] w fun e W=>e=.returned (.slice (some ⟨w.heap.size,0,none⟩) s.length s.length)∧W.heap[w.heap.size]?=some (.cells (bvM (nzs s)).toArray 4 (0,0))∧Below w.heap.size w W:=by
  have h1:=hro
  have h2:=hdp
  have k1:FX.fn 22:=FX_fn (by decide)
  have hr:=run_boolsW w s.length hs
  obtain ⟨W0,hW0⟩ : ∃ W0,w.alloc (.cells (List.replicate s.length (Value.bool false)).toArray 4)=W0:=⟨_,rfl⟩
  rw [hW0] at hr
  have z0:W0.heap.size=w.heap.size+1:=by rw [← hW0];simp
  have b0:Below w.heap.size w W0:=by rw [← hW0];exact (Below.refl _ _).alloc (Nat.le_refl _) _
  have x0:W0.heap[w.heap.size]?=some (.cells (bvM (blL (nzs s) 0)).toArray 4 (0,0)):=by rw [← hW0,blL_zero];exact heap_new _ _ rfl
  obtain ⟨W1,hW1⟩ : ∃ W1,W0.alloc (.cells #[.slice (some ⟨w.heap.size,0,none⟩) s.length s.length] 47)=W1:=⟨_,rfl⟩
  have B1:Below w.heap.size w W1:=by rw [← hW1];exact b0.alloc (by omega) _
  have z1:W1.heap.size=w.heap.size+2:=by rw [← hW1];simp;omega
  have e0:W1.heap[w.heap.size]?=some (.cells (bvM (blL (nzs s) 0)).toArray 4 (0,0)):=by rw [← hW1,Below.heap_alloc _ _ _ (by omega)];exact x0
  have e1:W1.heap[w.heap.size+1]?=some (.cells #[.slice (some ⟨w.heap.size,0,none⟩) s.length s.length] 47 (0,0)):=by rw [← hW1];exact heap_new _ _ z0.symm
  have kk:W1.cell? ⟨W0.heap.size,0,none⟩=some (.slice (some ⟨w.heap.size,0,none⟩) s.length s.length):=by rw [← hW1];exact cell_of (heap_new _ _ rfl) rfl
  have kl:W0.heap.size<W1.heap.size:=by rw [z1,z0];omega
  have DP:=hide (depth_in (w:=w) (F:=FX) (m:=m - 1) (FX_fn (by decide)) hro P)
  have kd:FX.fn 21:=FX_fn (by decide)
  have CD:=hide (down_in (w:=W1) (F:=FX) (m:=m - 1) (FX_fn (by decide)) hro b s.length)
  have HB1:=hide B1
  have HZ1:=hide z1
  have E0:=hide e0
  have E1:=hide e1
  have HP:=hide P
  have HS:=hide hs
  have HZ0:=hide z0
  clear B1 z1 e0 e1 P hs x0 b0 z0 hW0
  refine callsIn_of_wp_marks Tryz.func12 rfl (FX_fn (by decide)) ?_ hro
  simp only [Tryz.ntmps12,List.size_toArray,List.length_cons,List.length_nil,Nat.reduceAdd,Nat.reduceSub,Array.replicate_succ,Array.replicate_zero,List.push_toArray,List.append_toArray,List.nil_append,List.cons_append]
  gi_wp2_with fail
  refine CallsIn.mono DP.out ?_
  rintro e wd ⟨rfl,hwd⟩
  obtain rfl:w=wd:=hwd.symm
  gi_wp2_with fail
  refine CallsIn.mono CD.out ?_
  rintro e w2 ⟨rfl,hw2⟩
  have Z2:=hide (show w2.heap.size=w.heap.size+4 by rw [hw2];have:=HZ1.out;simp;omega)
  have B2:=hide (show Below W1.heap.size W1 w2 from by rw [hw2];exact ((Below.refl _ _).alloc (Nat.le_refl _) _).alloc (by simp) _)
  have EP:=hide (show w2.heap[w.heap.size+2]?=some (.cells #[pp b] 43 (0,0)) from by rw [hw2,Below.heap_alloc _ _ _ (by have:=HZ1.out;simp;omega)];exact heap_new _ _ HZ1.out.symm)
  have EN:=hide (show w2.heap[w.heap.size+3]?=some (.cells #[.int .i64 (s.length:Int)] 3 (0,0)) from by rw [hw2];exact heap_new _ _ (by have:=HZ1.out;simp;omega))
  clear hw2 CD hW1 hr DP kk kl
  gi_wp2_with fail
  rw [HZ0.out]
  refine range_of hro (by intro h;cases h) (gf:=39) (lb:=#[.pointer (some ⟨W1.heap.size+1,0,none⟩),.pointer (some ⟨W1.heap.size,0,none⟩)]) rfl (FX_fn (by decide)) (enters_of Tryz.func39 (by kernel_rfl) rfl) ?_
  intro fn hfn
  obtain ⟨gf,hgf⟩:=FX_ex hfn
  generalize hrec:recL fn _ _ _ _ w2.heap.size=rec
  dsimp only
  obtain ⟨W3,hW3⟩ : ∃ W3,(w2.alloc (.deferred (some []))).alloc (.loop (rec .ready none))=W3:=⟨_,rfl⟩
  rw [hW3]
  have z1:=HZ1.out
  have z2:=Z2.out
  have zW:W3.heap.size=w.heap.size+6:=by rw [← hW3];simp;omega
  have eL:W3.heap[w2.heap.size+1]?=some (.loop (rec .ready none)):=by rw [← hW3];exact heap_new _ _ (by simp)
  have eD:W3.heap[w2.heap.size]?=some (.deferred (some [])):=by rw [← hW3,Below.heap_alloc _ _ _ (by simp)];exact heap_new _ _ rfl
  have bW:Below w2.heap.size w2 W3:=by rw [← hW3];exact ((Below.refl _ _).alloc (Nat.le_refl _) _).alloc (by simp) _
  have b13:Below W1.heap.size W1 W3:=B2.out.trans (bW.mono (by omega))
  have bw3:Below w.heap.size w W3:=HB1.out.trans (b13.mono (by omega))
  clear hW3
  obtain ⟨B,hB⟩ : ∃ B,w.heap.size=B:=⟨_,rfl⟩
  rw [hB] at z1 z2 zW E0 E1 EP EN bw3
  have S0:PsS s w B w2.heap.size 0 W3:=⟨(b13.block _ (by omega)).trans E0.out,(b13.block _ (by omega)).trans E1.out,eD,bw3⟩
  have hst:∀ {k:Nat} {W W' : World},PsS s w B w2.heap.size k W→∀ {Q:Nat→Prop},Kp Q W W'→(∀ j,Q j→w2.heap.size<j)→PsS s w B w2.heap.size k W':=fun S _ h hQ=>S.keep (by omega) h hQ
  refine CallsIn.mono (down1_in (X:=fun j=>j=B∨j=w2.heap.size+1) (D:=W3.heap.size) (l:=w2.heap.size+1) (n:=s.length) (s:=s) (nb:=W1.heap.size+1) (pb:=W1.heap.size) (b:=b) (E:=E)
    (J:=fun k W=>PsS s w B w2.heap.size k W∧W.heap[w2.heap.size+1]?=some (.loop (rec .ready none)))
    (Jp:=fun _ _=>False)
    ⟨Nat.le_refl _,by have:=HS.out;omega,?hX,?st,?stp,?yi⟩ ?hp rfl ⟨S0,eL⟩ ?cn ?cp) ?fin
  case hX =>
   rintro j (h | h)
   · omega
   · omega
  case st =>
   rintro k W W' ⟨S,hl⟩ h
   exact ⟨hst S h (fun j hj=>by have:W3.heap.size≤j:=hj;omega),(h.block _ (lt_of_block hl) (by show ¬ W3.heap.size≤_;omega)).trans hl⟩
  case stp =>
   rintro ch W W' h
   exact h.elim
  case hp =>
   refine (PileAt.sub (fun j hj hx=>?_) (HP.out.upto (Nat.le_of_eq hB))).keep ((Kp.of_below (by rw [hB];exact bw3)).mono (fun _ h=>h))
   rcases hx with h | h
   · right;omega
   · right;omega
  case cn=>exact cell_of ((bW.block _ (by omega)).trans (by rw [show W1.heap.size+1=B+3 by omega];exact EN.out)) rfl
  case cp=>exact cell_of ((bW.block _ (by omega)).trans (by rw [show W1.heap.size=B+2 by omega];exact EP.out)) rfl
  case yi =>
   rintro k W ⟨S,hl⟩ hk x hx
   have hl':=hl
   rw [← hrec] at hl'
   refine yield_of (a₁:=⟨#[pp b,undef,.slice none 0 0,.pointer (some ⟨w.heap.size+1,0,none⟩),.int .i64 ((s.length - 1 - k:Nat):Int),.int .i64 x,pp b,.int .i64 (s.length:Int),.slice (some ⟨w.heap.size,0,none⟩) s.length s.length,pp b,.slice (some ⟨w.heap.size,0,none⟩) s.length s.length,.int .i64 (s.length:Int),.func (.func 39) #[] #[.pointer (some ⟨W1.heap.size+1,0,none⟩),.pointer (some ⟨W1.heap.size,0,none⟩)],.int .i64 ((s.length - 1 - k:Nat):Int),.int .i64 x,undef,undef,undef,undef,undef,undef],[]⟩) hfn hgf hl' rfl ?assign ?body
   case assign =>
    clear hB z1 z2
    intro K hK
    gi_wp2
    exact hK
   case body =>
    rw [hrec]
    have hlt2:w2.heap.size+1<W.heap.size:=lt_of_block hl
    have SB:=hst S (But.put W (w2.heap.size+1) (.loop (rec .busy none))).kp (fun j hj=>by subst hj;omega)
    have KB:Kp (fun j=>j=w2.heap.size+1) W (W.putObj (w2.heap.size+1) (.loop (rec .busy none))):=(But.put W _ _).kp
    have LB:(W.putObj (w2.heap.size+1) (.loop (rec .busy none))).heap[w2.heap.size+1]?=some (.loop (rec .busy none)):=World.putObj_heap_same hlt2
    generalize W.putObj (w2.heap.size+1) (.loop (rec .busy none))=WB at *
    obtain ⟨i,hi⟩ : ∃ i,s.length - 1 - k=i:=⟨_,rfl⟩
    have hil:i<s.length:=by omega
    have hnx:=blL_next hk hx
    rw [hi] at hnx ⊢
    have i1:WB.cell? ⟨B+1,0,none⟩=some (.slice (some ⟨B,0,none⟩) s.length s.length):=cell_of SB.e1 rfl
    obtain ⟨u,hu⟩ : ∃ u,(bvM (blL (nzs s) k)).toArray[i]?=some u:=⟨(bvM (blL (nzs s) k)).toArray[i]'(by simp [bvM,blL_len,nzs];omega),by simp⟩
    have i0:WB.cell? ⟨B,i,none⟩=some u:=cell_of SB.e0 hu
    have f0:WB.frozen? ⟨B,i,none⟩=false:=by simp [World.frozen?,SB.e0]
    have d1:decide (i<s.length)=true:=by simpa using hil
    have HF:=hide (show ∀ F,WB.setCell ⟨B,i,none⟩ (.bool (x != 0))=F→F.heap[w2.heap.size+1]?=some (.loop (rec .busy none))∧(PsS s w B w2.heap.size (k+1) (F.putObj (w2.heap.size+1) (.loop (rec .ready none)))∧(F.putObj (w2.heap.size+1) (.loop (rec .ready none))).heap[w2.heap.size+1]?=some (.loop (rec .ready none)))∧Kp (fun j=>j=B∨j=w2.heap.size+1) W (F.putObj (w2.heap.size+1) (.loop (rec .ready none))) from fun F hF=>by
     have q:∀ j,j≠B→F.heap[j]?=WB.heap[j]?:=fun j hj=>by rw [← hF];exact Below.heap_setCell _ _ _ j hj
     have q0:F.heap[B]?=some (.cells (bvM (blL (nzs s) (k+1))).toArray 4 (0,0)):=by rw [← hF,← hnx];exact heap_setCell_same _ B i _ SB.e0
     have qz:F.heap.size=WB.heap.size:=by rw [← hF];exact World.size_setCell _ _ _
     have qo:F.os=WB.os∧F.tape=WB.tape∧F.output=WB.output:=by rw [← hF];exact ⟨rfl,rfl,rfl⟩
     clear hF
     have hl:F.heap[w2.heap.size+1]?=some (.loop (rec .busy none)):=(q _ (by omega)).trans LB
     have kF:Kp (fun j=>j=w2.heap.size+1) F (F.putObj (w2.heap.size+1) (.loop (rec .ready none))):=(But.put F _ _).kp
     have hr:(F.putObj (w2.heap.size+1) (.loop (rec .ready none))).heap[w2.heap.size+1]?=some (.loop (rec .ready none)):=World.putObj_heap_same (lt_of_block hl)
     generalize F.putObj (w2.heap.size+1) (.loop (rec .ready none))=F' at *
     have p:∀ {j:Nat} {o:Obj},j≠w2.heap.size+1→F.heap[j]?=some o→F'.heap[j]?=some o:=fun hj ho=>(kF.block _ (lt_of_block ho) hj).trans ho
     refine ⟨hl,⟨⟨p (by omega) q0,p (by omega) ((q _ (by omega)).trans SB.e1),p (by omega) ((q _ (by omega)).trans SB.d2),SB.kp.trans ⟨kF.os.trans qo.1,kF.tape.trans qo.2.1,kF.output.trans qo.2.2,by have:=kF.size;omega,fun j hj=>(kF.block j (by have:=lt_of_block SB.e0;omega) (by omega)).trans (q j (by omega))⟩⟩,hr⟩,?_⟩
     exact ⟨kF.os.trans (qo.1.trans KB.os),kF.tape.trans (qo.2.1.trans KB.tape),kF.output.trans (qo.2.2.trans KB.output),by have:=kF.size;have:=KB.size;omega,fun j hj hx=>(kF.block j (by have:=KB.size;omega) (fun h=>hx (.inr h))).trans ((q j (fun h=>hx (.inl h))).trans (KB.block j hj (fun h=>hx (.inr h))))⟩)
    rw [hB]
    clear S hl hl' SB KB LB hx hnx hu z1 z2 zW eL eD bW b13 bw3 S0 hlt2 hi
    gi_wp2
    exact ⟨(HF.out _ rfl).1,rfl,(HF.out _ rfl).2⟩
  case fin =>
   rintro e W' (⟨v,rfl,S,hl⟩ | ⟨ch,rfl,h⟩)
   · refine .inl ⟨v,rfl,hl,?_⟩
     have SE:=hst S (But.put W' (w2.heap.size+1) (.loop (rec .exhausted none))).kp (fun j hj=>by subst hj;omega)
     generalize W'.putObj (w2.heap.size+1) (.loop (rec .exhausted none))=W9 at *
     rw [hB]
     have HSE:=hide SE
     have i1:W9.cell? ⟨B+1,0,none⟩=some (.slice (some ⟨B,0,none⟩) s.length s.length):=cell_of SE.e1 rfl
     have HDB:=hide (show B+1<w2.heap.size by omega)
     clear SE S hl z1 z2 zW eL eD bW b13 bw3 S0
     gi_wp2
     refine leave_marks (by simp) [w2.heap.size] W9 (by simp) (fun d hd=>by rw [List.mem_singleton] at hd;subst hd;exact HSE.out.d2) fun w' hb=>?_
     have hk:=HSE.out.kp
     have e0:=HSE.out.e0
     rw [blL_all] at e0
     have hlt:=HDB.out
     refine ⟨.slice (some ⟨B,0,none⟩) s.length s.length,by simp [results,Tryz.results12,go_sem],rfl,(hb.block _ (by simp;omega)).trans e0,⟨hb.os.trans hk.os,hb.tape.trans hk.tape,hb.output.trans hk.output,by rw [hb.size];exact hk.size,fun j hj=>(hb.block j (by simp;omega)).trans (hk.block j hj)⟩⟩
   · exact h.elim
theorem ptrsOf_any (P:PileAt Z w E b s) (hs:s.length≤300000000):Calls Tryz.prog 12 #[pp b] w fun e W=>e=.returned (.slice (some ⟨w.heap.size,0,none⟩) s.length s.length)∧W.heap[w.heap.size]?=some (.cells (bvM (nzs s)).toArray 4 (0,0))∧Below w.heap.size w W:=(ptrsOf_in (m:=0) P hs).calls FX_room
end
def PtS (ks:List Int) (w:World) (k:Nat) (W:World):Prop:=W.heap[w.heap.size]?=some (.cells (bvM (nzs (ks.take k)++List.replicate (ks.length - k) false)).toArray 4 (0,0))∧Below w.heap.size w W
def PtL (ks:List Int) (w:World) (a:Value) (wr:World):Prop:=∃ k:Nat,a=.int .i64 k∧k≤ks.length∧PtS ks w k wr
theorem PtS.next {ks:List Int} {w W:World} {k:Nat} {x:Int} (S:PtS ks w k W) (hx:ks[k]?=some x):PtS ks w (k+1) (W.setCell ⟨w.heap.size,k,none⟩ (.bool (x != 0))):=by
 have hk:=get_lt hx
 refine ⟨?_,S.2.setCell (Nat.le_refl _) _⟩
 rw [heap_setCell_same _ _ _ _ S.1,List.setIfInBounds_toArray]
 congr 3
 unfold bvM
 rw [← List.map_set (f:=Value.bool)]
 congr 1
 apply List.ext_getElem?
 intro i
 have hl:(nzs (ks.take k)).length=k:=by rw [nzs_len,List.length_take];omega
 have hl2:(nzs (ks.take (k+1))).length=k+1:=by rw [nzs_len,List.length_take];omega
 rw [List.getElem?_set,List.length_append,hl,List.length_replicate]
 by_cases h:k=i
 · subst h
   rw [if_pos rfl,if_pos (by omega),List.getElem?_append_left (by omega)]
   unfold nzs
   rw [List.getElem?_map,List.getElem?_take,if_pos (by omega),hx]
   rfl
 · rw [if_neg h]
   rcases Nat.lt_or_ge i k with h1 | h1
   · rw [List.getElem?_append_left (by omega),List.getElem?_append_left (by omega)]
     unfold nzs
     rw [List.getElem?_map,List.getElem?_map,List.getElem?_take,List.getElem?_take,if_pos (by omega),if_pos (by omega)]
   · rw [List.getElem?_append_right (by omega),List.getElem?_append_right (by omega),hl,hl2,List.getElem?_replicate,List.getElem?_replicate]
     by_cases h2:i<ks.length
     · rw [if_pos (by omega),if_pos (by omega)]
     · rw [if_neg (by omega),if_neg (by omega)]
section
variable {w:World} {ks:List Int}
theorem pointers_any {v:Value} (R:IsAt (fun _=>False) w v ks) (hl:ks.length≤300000000):Calls Tryz.prog 11 #[v] w fun e W=>e=.returned (.slice (some ⟨w.heap.size,0,none⟩) ks.length ks.length)∧W.heap[w.heap.size]?=some (.cells (bvM (nzs ks)).toArray 4 (0,0))∧Below w.heap.size w W:=by
 obtain ⟨ao,cap,rfl,_,_,hel⟩:=R
 have hr:=run_boolsW w ks.length hl
 obtain ⟨W0,hW0⟩ : ∃ W0,w.alloc (.cells (List.replicate ks.length (Value.bool false)).toArray 4)=W0:=⟨_,rfl⟩
 rw [hW0] at hr
 have S0:=hide (show PtS ks w 0 W0 from by
  rw [← hW0]
  refine ⟨?_,(Below.refl _ _).alloc (Nat.le_refl _) _⟩
  rw [heap_new _ _ rfl]
  simp [nzs,bvM])
 have HEL:=hide (show ∀ W:World,Below w.heap.size w W→∀ (j:Nat) (k:Int),ks[j]?=some k→∃ g o,ao=some ⟨g,o,none⟩∧g<W.heap.size∧W.cell? ⟨g,o+j,none⟩=some (.int .i64 k) from fun W h j k hk=>by
  obtain ⟨g,o,h1,h2,_,h4⟩:=hel j k hk
  exact ⟨g,o,h1,Nat.lt_of_lt_of_le h2 h.size,(h.cell (p:=⟨g,o+j,none⟩) h2).trans h4⟩)
 have HL:=hide hl
 clear hel hW0 hl
 obtain ⟨n,hn⟩ : ∃ n,ks.length=n:=⟨_,rfl⟩
 have HN:=hide hn
 rw [hn] at hr ⊢
 clear hn
 go_enter Tryz.func11,Tryz.ntmps11
 go_wp2
 go_loopw [11] (fun a wr=>PtL ks w a wr) (fun a _=>n - (intOf a).toNat)
 case atStart=>exact ⟨0,rfl,Nat.zero_le _,S0.out⟩
 case round =>
  obtain ⟨k,rfl,hk,S⟩:=hrel
  rw [HN.out] at hk
  have HS:=hide S
  have hnb:n≤300000000:=by have:=HL.out;rwa [HN.out] at this
  clear S S0 hr
  by_cases hlt:k<n
  · obtain ⟨x,hx⟩ : ∃ x,ks[k]?=some x:=⟨ks[k]'(by rw [HN.out];exact hlt),by simp⟩
    obtain ⟨g,o,rfl,hg,hc⟩:=HEL.out wr HS.out.2 k x hx
    have HX:=hide (HS.out.next hx)
    have hbl:=HS.out.1
    have hlb:w.heap.size<wr.heap.size:=lt_of_block hbl
    have hkn:k<ks.length:=by rw [HN.out];exact hlt
    obtain ⟨u,hu⟩ : ∃ u,(bvM (nzs (ks.take k)++List.replicate (ks.length - k) false)).toArray[k]?=some u:=⟨(bvM (nzs (ks.take k)++List.replicate (ks.length - k) false)).toArray[k]'(by simp [bvM,nzs];omega),by simp⟩
    have i0:wr.cell? ⟨w.heap.size,k,none⟩=some u:=cell_of hbl hu
    have f0:wr.frozen? ⟨w.heap.size,k,none⟩=false:=by simp [World.frozen?,hbl]
    have d1:decide (k<n)=true:=by simpa using hlt
    have d2:(k:Int)≤300000000:=by omega
    clear hbl hu hx hkn
    go_wp2
    go_roundw
    case rel=>exact ⟨k+1,by first | exact num_next hlt (by omega) | go_num,by rw [HN.out];exact hlt,HX.out⟩
    case measure=>first | exact meas_int hlt (by omega) | (rw [intOf_int,intOf_int];omega)
  · obtain rfl:n=k:=by omega
    have d1:decide (n<n)=false:=by simp
    have HE:=hide (show wr.heap[w.heap.size]?=some (.cells (bvM (nzs ks)).toArray 4 (0,0)) from by
     have h:=HS.out.1
     rw [← HN.out,Nat.sub_self,List.take_length,List.replicate_zero,List.append_nil] at h
     exact h)
    go_wp2
    go_ret
    exact ⟨rfl,HE.out,HS.out.2⟩
end
end Go.Proofs.YtkdojpnihinpbaaGreatDoor
