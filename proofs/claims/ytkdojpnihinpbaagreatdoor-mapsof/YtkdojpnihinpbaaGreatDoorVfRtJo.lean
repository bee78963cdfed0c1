/- The document's targets. -/
import Derived.Test.YtkdojpnihinpbaaGreatDoorVfRlJo
namespace Go.Proofs.YtkdojpnihinpbaaGreatDoor
open Go.RowKit
def LiO (l:List Int) (w:World) (e:Ending) (W:World):Prop:=Below w.heap.size w W∧∃ a c,e=.returned (.slice a l.length c)∧SlAt 1 IntP W.heap.size W (.slice a l.length c) l∧IsAt (fun j=>j<w.heap.size) W (.slice a l.length c) l
theorem is_nil {X:Nat→Prop} {W:World}:IsAt X W (.slice none 0 0) []:=⟨none,0,rfl,Nat.le_refl _,by unfold maxLen;omega,fun j k hj=>by simp at hj⟩
theorem is_block {X:Nat→Prop} {W:World} {l:List Int} {b:Nat} (h:W.heap[b]?=some (.cells (ivs l).toArray 3 (0,0))) (hn:l.length≤300000000) (hX:¬ X b):IsAt X W (.slice (some ⟨b,0,none⟩) l.length l.length) l :=
  ⟨_,_,rfl,Nat.le_refl _,by unfold maxLen;omega,fun j k hj=>⟨b,0,rfl,lt_of_block h,hX,cell_of h (by rw [Nat.zero_add];simp [ivs,hj])⟩⟩
section
variable {w:World} {o a b:Int} {t:Nat}
theorem tg_box (o a b:Int):∃ W1,w.alloc (.cells #[.int .i64 o,.int .i64 a,.int .i64 b] 46)=W1∧Below w.heap.size w W1∧W1.cell? ⟨w.heap.size,0,none⟩=some (.int .i64 o)∧W1.cell? ⟨w.heap.size,1,none⟩=some (.int .i64 a)∧w.heap.size<W1.heap.size:=by
 have h:=heap_new w (.cells #[.int .i64 o,.int .i64 a,.int .i64 b] 46) rfl
 exact ⟨_,rfl,(Below.refl _ _).alloc (Nat.le_refl _) _,cell_of h rfl,cell_of h rfl,lt_of_block h⟩
theorem LiO.of {W1:World} {l:List Int} (hb:Below w.heap.size w W1) (hl:Bd l) (hn:l.length≤300000000):LiO l w (.returned (.slice (some ⟨W1.heap.size,0,none⟩) l.length l.length)) (W1.alloc (.cells (ivs l).toArray 3)) :=
  ⟨hb.alloc hb.size _,_,_,rfl,ints_block (heap_new W1 (.cells (ivs l).toArray 3) rfl) hl hn,is_block (heap_new W1 (.cells (ivs l).toArray 3) rfl) hn (by have:=hb.size;omega)⟩
set_option maxHeartbeats 1000000 in
theorem rtargets_any (ha : -9223372036854775808≤a∧a≤9223372036854775807) (ht:t≤65536):Calls Tryz.prog 28 #[.agg #[.int .i64 o,.int .i64 a,.int .i64 b],.int .i64 (t:Int)] w (LiO (nextsP ⟨o,a,b⟩ t) w):=by
 obtain ⟨W1,hW1,hb,k0,k1,hl⟩:=tg_box (w:=w) o a b
 have hw:IntKind.i64.wrap ((t:Int)+1)=(t:Int)+1:=wrapI (by omega) (by omega)
 by_cases h9:o=9
 · subst h9
   have HF:=hide (LiO.of (l:=[a]) hb (fun x hx=>by simp at hx;subst hx;exact ha) (by simp))
   rw [show nextsP ⟨9,a,b⟩ t=[a] by simp [nextsP]]
   clear hb
   go_enter Tryz.func28,Tryz.ntmps28
   go_wp2
   go_ret
   exact HF.out
 have q9:=bne_int h9
 by_cases h10:o=10
 · subst h10
   have HF:=hide (LiO.of (l:=[(t:Int)+1,a]) hb (fun x hx=>by simp at hx;rcases hx with rfl | rfl;exact ⟨by omega,by omega⟩;exact ha) (by simp))
   rw [show nextsP ⟨10,a,b⟩ t=[(t:Int)+1,a] by simp [nextsP]]
   clear hb h9
   go_enter Tryz.func28,Tryz.ntmps28
   go_wp2
   go_ret
   exact HF.out
 have q10:=bne_int h10
 by_cases h24:o=24
 · subst h24
   have HF:=hide (show LiO [] w (.returned (.slice none 0 0)) W1 from ⟨hb,none,0,rfl,sl_nil,is_nil⟩)
   rw [show nextsP ⟨24,a,b⟩ t=[] by simp [nextsP]]
   clear hb h9 h10
   go_enter Tryz.func28,Tryz.ntmps28
   go_wp2
   go_ret
   exact HF.out
 have q24:=bne_int h24
 by_cases h27:o=27
 · subst h27
   have HF:=hide (show LiO [] w (.returned (.slice none 0 0)) W1 from ⟨hb,none,0,rfl,sl_nil,is_nil⟩)
   rw [show nextsP ⟨27,a,b⟩ t=[] by simp [nextsP]]
   clear hb h9 h10 h24
   go_enter Tryz.func28,Tryz.ntmps28
   go_wp2
   go_ret
   exact HF.out
 have q27:=bne_int h27
 by_cases h28:o=28
 · subst h28
   have HF:=hide (show LiO [] w (.returned (.slice none 0 0)) W1 from ⟨hb,none,0,rfl,sl_nil,is_nil⟩)
   rw [show nextsP ⟨28,a,b⟩ t=[] by simp [nextsP]]
   clear hb h9 h10 h24 h27
   go_enter Tryz.func28,Tryz.ntmps28
   go_wp2
   go_ret
   exact HF.out
 have q28:=bne_int h28
 have HF:=hide (LiO.of (l:=[(t:Int)+1]) hb (fun x hx=>by simp at hx;subst hx;exact ⟨by omega,by omega⟩) (by simp))
 rw [show nextsP ⟨o,a,b⟩ t=[(t:Int)+1] by simp [nextsP,h9,h10,h24,h27,h28]]
 clear hb h9 h10 h24 h27 h28
 go_enter Tryz.func28,Tryz.ntmps28
 go_wp2
 go_ret
 exact HF.out
end
end Go.Proofs.YtkdojpnihinpbaaGreatDoor

namespace Go.Proofs.YtkdojpnihinpbaaGreatDoor
open Go.RowKit
def XL (cb sb ob lb rb:Nat) (j:Nat):Prop:=j=cb∨j=sb∨j=ob∨j=lb∨j=rb
def StK (X:Nat→Prop) (W:World):Option (List Int)→Value→Prop
  | none,c=>c=.slice none 0 0
  | some s,c=>IsAt X W c s∧Bd s
theorem StK.keep {X:Nat→Prop} {W W' : World} {o:Option (List Int)} {c:Value} (h:StK X W o c) (hk:Kp X W W'):StK X W' o c:=by
 cases o with
 | none=>exact h
 | some s=>exact ⟨h.1.keep hk,h.2⟩
theorem IsAt.sl {X:Nat→Prop} {W:World} {v:Value} {s:List Int} (h:IsAt X W v s) (hb:Bd s) (hl:s.length≤300000000):SlAt 1 IntP W.heap.size W v s:=by
 obtain ⟨ao,cap,h1,h2,h3,h4⟩:=h
 refine ⟨ao,cap,h1,⟨by omega,h2,h3⟩,fun j x hx=>?_⟩
 obtain ⟨g,o,e1,e2,_,e4⟩:=h4 j x hx
 refine ⟨g,o,[.int .i64 x],e1,e2,fun r u hr=>?_,rfl,hb x (List.mem_of_getElem? hx)⟩
 match r,hr with
 | 0,hr=>cases hr;rw [Nat.mul_one,Nat.add_zero];exact e4
theorem OwI.is {C:Nat} {X:Nat→Prop} {W:World} {v:Value} {l:List Int} (h:OwI C W v l) (hX:∀ j,X j→j<C):IsAt X W v l:=by
 rcases h.1.2 with ⟨rfl,h0⟩ | ⟨g,cap,cur,rfl,h1,h2,h3,h4,h5,h6⟩
 · have:=List.eq_nil_of_length_eq_zero h0
   subst this
   exact ⟨none,0,rfl,Nat.le_refl _,by unfold maxLen;omega,fun j k hj=>by simp at hj⟩
 · refine ⟨_,cap,rfl,h3,h4,fun j x hx=>⟨g,0,rfl,lt_of_block h2,fun hx=>by have:=hX g hx;omega,cell_of h2 ?_⟩⟩
   rw [Nat.zero_add]
   have h7:(ivs l)[j]?=some (.int .i64 x):=by simp [ivs,hx]
   rw [← h6,List.getElem?_take] at h7
   split at h7
   · rw [Array.getElem?_toList] at h7
     exact h7
   · cases h7
def bvs (l:List Bool):List Value:=l.map Value.bool
def cvs (l:List (Option (List Int))):List Value:=l.map fun o=>Value.bool o.isSome
structure LkM (w:World) (cb sb ob lb L:Nat) (pv fv:Array Value) (F:Fl) (lk:List Bool) (W:World):Prop where
  bel:Below w.heap.size w W
  pbx:W.heap[w.heap.size]?=some (.cells pv 27 (0,0))
  res:W.heap[w.heap.size+1]?=some (.cells #[.slice none 0 0,.slice none 0 0,.int .i64 0] 55 (0,0))
  fbx:W.heap[w.heap.size+2]?=some (.cells fv 40 (0,0))
  out:W.heap[ob]?=some (.cells #[.slice (some ⟨cb,0,none⟩) L L,.slice (some ⟨sb,0,none⟩) L L,.int .i64 (F.mo:Int)] 55 (0,0))
  cm:W.heap[cb]?=some (.cells (cvs F.ah).toArray 4 (0,0))
  st:∃ scs:List Value,W.heap[sb]?=some (.cells scs.toArray 37 (0,0))∧scs.length=L∧∀ (x:Nat) (o:Option (List Int)),F.ah[x]?=some o→∃ c,scs[x]?=some c∧StK (XL cb sb ob lb (w.heap.size+1)) W o c
  lo:W.heap[lb]?=some (.cells (bvs lk).toArray 4 (0,0))
  la:F.ah.length=L
  ll:lk.length=L
  lw:F.wt.length=L
  wt:∀ (x:Nat) (o:Option (List Int)) (b:Bool),F.ah[x]?=some o→lk[x]?=some b→F.wt[x]?=some (o.isSome && !b)
  lc:∀ x:Nat,lk[x]?=some true→∃ s,F.ah[x]?=some (some s)
  d1:w.heap.size+3≤cb∧w.heap.size+3≤sb∧w.heap.size+3≤ob∧w.heap.size+3≤lb
  d2:cb≠sb∧cb≠ob∧cb≠lb∧sb≠ob∧sb≠lb∧ob≠lb
section
variable {w:World} {cb sb ob lb L:Nat} {pv fv:Array Value} {F:Fl} {lk:List Bool} {W W' : World}
theorem LkM.up (M:LkM w cb sb ob lb L pv fv F lk W) (h:Below W.heap.size W W'):LkM w cb sb ob lb L pv fv F lk W':=by
 obtain ⟨scs,h1,h2,h3⟩:=M.st
 refine ⟨bel_tr M.bel h,(h.block _ (lt_of_block M.pbx)).trans M.pbx,(h.block _ (lt_of_block M.res)).trans M.res,(h.block _ (lt_of_block M.fbx)).trans M.fbx,(h.block _ (lt_of_block M.out)).trans M.out,(h.block _ (lt_of_block M.cm)).trans M.cm,⟨scs,(h.block _ (lt_of_block h1)).trans h1,h2,fun x o ho=>?_⟩,(h.block _ (lt_of_block M.lo)).trans M.lo,M.la,M.ll,M.lw,M.wt,M.lc,M.d1,M.d2⟩
 obtain ⟨c,c1,c2⟩:=h3 x o ho
 exact ⟨c,c1,c2.keep (Kp.of_below h)⟩
theorem sc_kp {X:Nat→Prop} (W:World) (a:Addr) (u:Value) (h:X a.block):Kp X W (W.setCell a u):=⟨rfl,rfl,rfl,Nat.le_of_eq (World.size_setCell _ _ _).symm,fun j _ hx=>Below.heap_setCell _ _ _ j (fun e=>hx (by rw [e];exact h))⟩
theorem set_ne (W:World) {b j o:Nat} (u:Value) (h:j≠b):(W.setCell ⟨b,o,none⟩ u).heap[j]?=W.heap[j]?:=Below.heap_setCell _ _ _ j h
theorem LkM.look (M:LkM w cb sb ob lb L pv fv F lk W) {x:Nat} {s:List Int} (hx:F.ah[x]?=some (some s)):LkM w cb sb ob lb L pv fv { F with wt:=F.wt.set x false } (lk.set x true) (W.setCell ⟨lb,x,none⟩ (.bool true)):=by
 obtain ⟨scs,h1,h2,h3⟩:=M.st
 obtain ⟨e1,e2,e3,e4⟩:=M.d1
 obtain ⟨n1,n2,n3,n4,n5,n6⟩:=M.d2
 have hxl:x<L:=by have:=get_lt hx;rw [M.la] at this;exact this
 refine ⟨M.bel.setCell (by show w.heap.size≤lb;omega) _,(set_ne W _ (by omega)).trans M.pbx,(set_ne W _ (by omega)).trans M.res,(set_ne W _ (by omega)).trans M.fbx,(set_ne W _ n6).trans M.out,(set_ne W _ n3).trans M.cm,⟨scs,(set_ne W _ n5).trans h1,h2,fun y o ho=>?_⟩,?_,M.la,by rw [List.length_set];exact M.ll,by rw [List.length_set];exact M.lw,fun y o b ho hb=>?_,fun y hy=>?_,M.d1,M.d2⟩
 · obtain ⟨c,c1,c2⟩:=h3 y o ho
   exact ⟨c,c1,c2.keep (sc_kp W _ _ (.inr (.inr (.inr (.inl rfl)))))⟩
 · rw [heap_setCell_same W lb x _ M.lo,List.setIfInBounds_toArray]
   unfold bvs
   rw [List.map_set]
 · rw [List.getElem?_set] at hb ⊢
   by_cases h:x=y
   · subst h
     rw [if_pos rfl,if_pos (by rw [M.ll];exact hxl)] at hb
     cases hb
     rw [if_pos rfl,if_pos (by rw [M.lw];exact hxl),Bool.not_true,Bool.and_false]
   · rw [if_neg h] at hb ⊢
     exact M.wt y o b ho hb
 · rw [List.getElem?_set] at hy
   by_cases h:x=y
   · subst h
     exact ⟨s,hx⟩
   · rw [if_neg h] at hy
     exact M.lc y hy
theorem LkM.most (M:LkM w cb sb ob lb L pv fv F lk W) (m:Nat):LkM w cb sb ob lb L pv fv { F with mo:=m } lk (W.setCell ⟨ob,2,none⟩ (.int .i64 (m:Int))):=by
 obtain ⟨scs,h1,h2,h3⟩:=M.st
 obtain ⟨e1,e2,e3,e4⟩:=M.d1
 obtain ⟨n1,n2,n3,n4,n5,n6⟩:=M.d2
 refine ⟨M.bel.setCell (by show w.heap.size≤ob;omega) _,(set_ne W _ (by omega)).trans M.pbx,(set_ne W _ (by omega)).trans M.res,(set_ne W _ (by omega)).trans M.fbx,?_,(set_ne W _ n2).trans M.cm,⟨scs,(set_ne W _ n4).trans h1,h2,fun y o ho=>?_⟩,(set_ne W _ (Ne.symm n6)).trans M.lo,M.la,M.ll,M.lw,M.wt,M.lc,M.d1,M.d2⟩
 · rw [heap_setCell_same W ob 2 _ M.out]
   rfl
 · obtain ⟨c,c1,c2⟩:=h3 y o ho
   exact ⟨c,c1,c2.keep (sc_kp W _ _ (.inr (.inr (.inl rfl))))⟩
theorem LkM.come (M:LkM w cb sb ob lb L pv fv F lk W) {t:Nat} {s:List Int} {v:Value} {G:Fl} (ht:t<L) (hc:comeP F t s=.ok G) (hv:IsAt (XL cb sb ob lb (w.heap.size+1)) W v s) (hb:Bd s):LkM w cb sb ob lb L pv fv G lk ((W.setCell ⟨cb,t,none⟩ (.bool true)).setCell ⟨sb,t,none⟩ v):=by
 obtain ⟨scs,h1,h2,h3⟩:=M.st
 obtain ⟨e1,e2,e3,e4⟩:=M.d1
 obtain ⟨n1,n2,n3,n4,n5,n6⟩:=M.d2
 obtain ⟨o,ho⟩ : ∃ o,F.ah[t]?=some o:=⟨F.ah[t]'(by rw [M.la];exact ht),by simp⟩
 have hG:G.ah=F.ah.set t (some s)∧G.mo=F.mo∧G.wt.length=F.wt.length∧∀ (y:Nat) (o:Option (List Int)) (b:Bool),(F.ah.set t (some s))[y]?=some o→lk[y]?=some b→G.wt[y]?=some (o.isSome && !b):=by
  unfold comeP at hc
  rw [ho,Option.getD_some] at hc
  cases o with
  | none =>
   cases hc
   refine ⟨rfl,rfl,by simp,fun y o b h4 h5=>?_⟩
   dsimp only
   rw [List.getElem?_set] at h4 ⊢
   by_cases h:t=y
   · subst h
     rw [if_pos rfl,if_pos (by rw [M.la];exact ht)] at h4
     cases h4
     rw [if_pos rfl,if_pos (by rw [M.lw];exact ht)]
     cases b with
     | false=>rfl
     | true =>
      obtain ⟨s',hs'⟩:=M.lc t h5
      rw [ho] at hs'
      cases hs'
   · rw [if_neg h] at h4 ⊢
     exact M.wt y o b h4 h5
  | some s' =>
   dsimp only at hc
   split at hc
   · rename_i hss
     subst hss
     cases hc
     have hset:F.ah.set t (some s')=F.ah:=by
      apply List.ext_getElem?
      intro y
      rw [List.getElem?_set]
      split
      · rename_i h
        subst h
        rw [if_pos (by rw [M.la];exact ht),ho]
      · rfl
     rw [hset]
     exact ⟨rfl,rfl,rfl,M.wt⟩
   · cases hc
 obtain ⟨g1,g2,g3,g4⟩:=hG
 have k1:Kp (XL cb sb ob lb (w.heap.size+1)) W ((W.setCell ⟨cb,t,none⟩ (.bool true)).setCell ⟨sb,t,none⟩ v):=(sc_kp W _ _ (.inl rfl)).trans (sc_kp _ _ _ (.inr (.inl rfl)))
 have q:∀ j,j≠cb→j≠sb→((W.setCell ⟨cb,t,none⟩ (.bool true)).setCell ⟨sb,t,none⟩ v).heap[j]?=W.heap[j]?:=fun j hc hs=>(set_ne _ _ hs).trans (set_ne _ _ hc)
 refine ⟨(M.bel.setCell (by show w.heap.size≤cb;omega) _).setCell (by show w.heap.size≤sb;omega) _,(q _ (by omega) (by omega)).trans M.pbx,(q _ (by omega) (by omega)).trans M.res,(q _ (by omega) (by omega)).trans M.fbx,by rw [g2];exact (q _ (Ne.symm n2) (Ne.symm n4)).trans M.out,?_,⟨scs.set t v,?_,by rw [List.length_set];exact h2,fun y o' ho'=>?_⟩,(q _ (Ne.symm n3) (Ne.symm n5)).trans M.lo,by rw [g1,List.length_set];exact M.la,M.ll,g3.trans M.lw,by rw [g1];exact g4,fun y hy=>?_,M.d1,M.d2⟩
 · rw [set_ne _ _ n1,heap_setCell_same W cb t _ M.cm,List.setIfInBounds_toArray,g1]
   unfold cvs
   rw [List.map_set]
   rfl
 · rw [heap_setCell_same _ sb t _ ((set_ne W _ (Ne.symm n1)).trans h1),List.setIfInBounds_toArray]
 · rw [g1,List.getElem?_set] at ho'
   rw [List.getElem?_set]
   by_cases h:t=y
   · subst h
     rw [if_pos rfl,if_pos (by rw [M.la];exact ht)] at ho'
     cases ho'
     rw [if_pos rfl,if_pos (by rw [h2];exact ht)]
     exact ⟨v,rfl,hv.keep k1,hb⟩
   · rw [if_neg h] at ho' ⊢
     obtain ⟨c,c1,c2⟩:=h3 y o' ho'
     exact ⟨c,c1,c2.keep k1⟩
 · obtain ⟨s',hs'⟩:=M.lc y hy
   rw [g1,List.getElem?_set]
   by_cases h:t=y
   · subst h
     exact ⟨s,by rw [if_pos rfl,if_pos (by rw [M.la];exact ht)]⟩
   · exact ⟨s',by rw [if_neg h];exact hs'⟩
theorem LkM.new {Wc:World} (hb:Below w.heap.size w Wc) (e0:Wc.heap[w.heap.size]?=some (.cells pv 27 (0,0))) (e1:Wc.heap[w.heap.size+1]?=some (.cells #[.slice none 0 0,.slice none 0 0,.int .i64 0] 55 (0,0))) (e2:Wc.heap[w.heap.size+2]?=some (.cells fv 40 (0,0))) (hc:Wc.heap[cb]?=some (.cells (List.replicate L (Value.bool false)).toArray 4 (0,0))) (hs:Wc.heap[sb]?=some (.cells (List.replicate L (Value.slice none 0 0)).toArray 37 (0,0))) (ho:Wc.heap[ob]?=some (.cells #[.slice (some ⟨cb,0,none⟩) L L,.slice (some ⟨sb,0,none⟩) L L,.int .i64 0] 55 (0,0))) (hl:Wc.heap[lb]?=some (.cells (List.replicate L (Value.bool false)).toArray 4 (0,0))) (hL:0<L)
    (d1:w.heap.size+3≤cb∧w.heap.size+3≤sb∧w.heap.size+3≤ob∧w.heap.size+3≤lb) (d2:cb≠sb∧cb≠ob∧cb≠lb∧sb≠ob∧sb≠lb∧ob≠lb):LkM w cb sb ob lb L pv fv (fl0 L) (List.replicate L false) (Wc.setCell ⟨cb,0,none⟩ (.bool true)):=by
  obtain ⟨n1,n2,n3,n4,n5,n6⟩:=d2
  have hah:∀ (x:Nat) (o:Option (List Int)),(fl0 L).ah[x]?=some o→x<L∧((x=0∧o=some [])∨(x≠0∧o=none)):=fun x o h=>by
   unfold fl0 at h
   dsimp only at h
   rw [List.getElem?_set] at h
   split at h
   · rename_i e
     rw [if_pos (by simpa using hL)] at h
     cases h
     exact ⟨by omega,.inl ⟨e.symm,rfl⟩⟩
   · rename_i e
     rw [List.getElem?_replicate] at h
     split at h
     · cases h
       exact ⟨by assumption,.inr ⟨fun h=>e h.symm,rfl⟩⟩
     · cases h
  refine ⟨hb.setCell (by show w.heap.size≤cb;omega) _,(set_ne _ _ (by omega)).trans e0,(set_ne _ _ (by omega)).trans e1,(set_ne _ _ (by omega)).trans e2,(set_ne _ _ (Ne.symm n2)).trans ho,?_,⟨List.replicate L (.slice none 0 0),(set_ne _ _ (Ne.symm n1)).trans hs,by simp,fun x o h=>?_⟩,(set_ne _ _ (Ne.symm n3)).trans (by rw [hl];simp [bvs]),by simp [fl0],by simp,by simp [fl0],fun x o b h1 h2=>?_,fun x hx=>?_,d1,⟨n1,n2,n3,n4,n5,n6⟩⟩
  · rw [heap_setCell_same _ cb 0 _ hc,List.setIfInBounds_toArray]
    congr 3
    unfold cvs fl0
    dsimp only
    rw [List.map_set,List.map_replicate]
    rfl
  · obtain ⟨hx,h3⟩:=hah x o h
    refine ⟨.slice none 0 0,by simp [hx],?_⟩
    rcases h3 with ⟨_,rfl⟩ | ⟨_,rfl⟩
    · exact ⟨⟨none,0,rfl,Nat.le_refl _,by unfold maxLen;omega,fun j k hj=>by simp at hj⟩,fun x hx=>by cases hx⟩
    · rfl
  · obtain ⟨hx,h3⟩:=hah x o h1
    rw [List.getElem?_replicate,if_pos hx] at h2
    cases h2
    unfold fl0
    dsimp only
    rw [List.getElem?_set]
    rcases h3 with ⟨rfl,rfl⟩ | ⟨h0,rfl⟩
    · rw [if_pos rfl,if_pos (by simpa using hL)]
      rfl
    · rw [if_neg (fun h=>h0 h.symm),List.getElem?_replicate,if_pos hx]
      rfl
  · rw [List.getElem?_replicate] at hx
    split at hx
    · cases hx
    · cases hx
theorem LkM.xl (M:LkM w cb sb ob lb L pv fv F lk W):∀ j,XL cb sb ob lb (w.heap.size+1) j→j<W.heap.size:=by
 obtain ⟨scs,h1,_⟩:=M.st
 rintro j (rfl | rfl | rfl | rfl | rfl)
 · exact lt_of_block M.cm
 · exact lt_of_block h1
 · exact lt_of_block M.out
 · exact lt_of_block M.lo
 · exact lt_of_block M.res
def unl (lb:Nat) (W:World):Nat:=match W.heap[lb]? with
  | some (.cells a _ _)=>(a.toList.filter fun v=>match v with
    | .bool b=>!b
    | _=>false).length
  | _=>0
theorem LkM.unl (M:LkM w cb sb ob lb L pv fv F lk W):Go.Proofs.YtkdojpnihinpbaaGreatDoor.unl lb W=(lk.filter fun b=>!b).length:=by
 unfold Go.Proofs.YtkdojpnihinpbaaGreatDoor.unl
 rw [M.lo]
 unfold bvs
 clear M
 dsimp only
 induction lk with
 | nil=>rfl
 | cons b r ih=>cases b <;> simp_all
theorem unl_less {x:Nat}:∀ {lk:List Bool},lk[x]?=some false→((lk.set x true).filter fun b=>!b).length<(lk.filter fun b=>!b).length:=by
 induction x with
 | zero =>
  intro lk h
  match lk,h with
  | false :: r,_=>simp
 | succ x ih =>
  intro lk h
  match lk,h with
  | b :: r,h =>
   have:=ih (lk:=r) h
   cases b <;> simp <;> simpa using this
end
end Go.Proofs.YtkdojpnihinpbaaGreatDoor

namespace Go.Proofs.YtkdojpnihinpbaaGreatDoor
theorem ef_err {p:Pg} {f:Fd} {i:In3} {s:List Int} {c:Int} (h:efP p f i s=.error c):c≠0:=by
 unfold efP at h
 split at h
 · cases h;decide
 · cases hp:putsP p f i ((s.drop (s.length - (takesP p f i).n)).getLast?.getD 0) ((s.drop (s.length - (takesP p f i).n)).head?.getD 0) with
   | error e =>
    rw [hp] at h
    cases h
    exact puts_err hp
   | ok l=>rw [hp] at h;cases h
theorem lk_ef {p:Pg} {f:Fd} {t:Nat} {i:In3} {s:List Int} {F:Fl} (hN:namesB p f i=true) (h1:¬ s.length<(takesP p f i).n) (h2:¬ (i.o=24∧s.length≠(takesP p f i).n)):lkR p f t i s F=match efP p f i s with
    | .error c=>.error c
    | .ok l=>if (nextsP i t).all (fun x=>inB x f.co.length) then comesP l (nextsP i t) { F with mo:=max F.mo l.length } else .error 10:=by
  have h3:¬ (s.length<(takesP p f i).n∨(i.o=24∧s.length≠(takesP p f i).n)):=fun h=>h.elim h1 h2
  unfold lkR lookP efP
  dsimp only
  rw [hN,if_neg (by simp),if_neg h3]
  cases hfi:(takesP p f i).fine (s.drop (s.length - (takesP p f i).n)) with
  | false=>rfl
  | true =>
   rw [if_neg (by simp),if_neg (by simp)]
   cases hp:putsP p f i ((s.drop (s.length - (takesP p f i).n)).getLast?.getD 0) ((s.drop (s.length - (takesP p f i).n)).head?.getD 0) with
   | error e=>rfl
   | ok l =>
    dsimp only
    by_cases hn:(nextsP i t).all (fun x=>inB x f.co.length)=true
    · rw [if_pos hn,if_pos hn]
    · rw [if_neg hn,if_neg hn]
theorem comes_snoc {s:List Int} {x:Int}:∀ {l:List Int} {F G:Fl},comesP s l F=.ok G→comesP s (l++[x]) F=comeP G x.toNat s
  | [],F,G,h=>by
   cases h
   rw [List.nil_append]
   unfold comesP
   cases hc:comeP F x.toNat s with
   | ok K=>rfl
   | error e=>rfl
  | y :: r,F,G,h=>by
   unfold comesP at h
   rw [List.cons_append]
   unfold comesP
   cases hc:comeP F y.toNat s with
   | ok K =>
    rw [hc] at h
    exact comes_snoc h
   | error e =>
    rw [hc] at h
    cases h
theorem comes_bad {s:List Int} {x:Int} {r:List Int} {e:Int}:∀ {l:List Int} {F G:Fl},comesP s l F=.ok G→comeP G x.toNat s=.error e→comesP s (l++x :: r) F=.error e
  | [],F,G,h,he=>by
   cases h
   rw [List.nil_append]
   unfold comesP
   rw [he]
  | y :: t,F,G,h,he=>by
   unfold comesP at h
   rw [List.cons_append]
   unfold comesP
   cases hc:comeP F y.toNat s with
   | ok K =>
    rw [hc] at h
    exact comes_bad h he
   | error e =>
    rw [hc] at h
    cases h
theorem take_rest2 {l:List Int} {j:Nat} {x:Int} (h:l[j]?=some x):l.take (j+1)=l.take j++[x]∧l=l.take j++x :: l.drop (j+1):=by
 refine ⟨by rw [List.take_add_one,h];rfl,?_⟩
 have h1:=(List.take_append_drop j l).symm
 have h2:l.drop j=x :: l.drop (j+1):=by
  rw [List.drop_eq_getElem_cons (get_lt h)]
  congr 1
  have:=List.getElem?_eq_getElem (get_lt h)
  rw [h] at this
  exact (Option.some.inj this).symm
 rw [h2] at h1
 exact h1
end Go.Proofs.YtkdojpnihinpbaaGreatDoor

namespace Go.Proofs.YtkdojpnihinpbaaGreatDoor
open Go.RowKit
theorem look_res {tmps:Array Value} {W:World} {b n1 n2 n3 n4:Nat} {a1 a2:Option Addr} {m i c:Int} (h4:tmps.getD 4 undef=.pointer (some ⟨b,0,none⟩)) (h5:tmps.getD 5 undef=.int .i64 i) (h6:tmps.getD 6 undef=.int .i64 c) (y0:W.cell? ⟨b,0,none⟩=some (.slice a1 n1 n2)) (y1:W.cell? ⟨b,1,none⟩=some (.slice a2 n3 n4)) (y2:W.cell? ⟨b,2,none⟩=some (.int .i64 m)):(results Tryz.f14 tmps).run Tryz.prog W=.ok (.tuple #[.agg #[.slice a1 n1 n2,.slice a2 n3 n4,.int .i64 m],.int .i64 i,.int .i64 c]) W:=by
 rw [Array.getD_eq_getD_getElem?] at h4 h5 h6
 simp [results,Tryz.results14,go_sem,h4,h5,h6,y0,y1,y2]
end Go.Proofs.YtkdojpnihinpbaaGreatDoor
