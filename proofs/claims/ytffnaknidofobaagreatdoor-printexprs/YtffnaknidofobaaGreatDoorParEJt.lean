/- The state of a walk through a part of the parser that answers a tree; what the parts owe one another. -/
import Derived.Test.YtffnaknidofobaaGreatDoorParDJt
import Derived.Laws.OwnMore
namespace Go.Proofs.YtffnaknidofobaaGreatDoor
open Go.RowKit
/-- A walk that began in w with the box of its result stands in W, the parser at token i. -/
structure St (X : Px) (w W : World) (i : Nat) (h : Bool) : Prop where
  but : But X.P w.heap.size w W
  par : Par X W i h
  box : Box W w.heap.size
  plt : X.P < w.heap.size
  tlt : X.tb < w.heap.size
section
variable {X : Px} {w W W' : World} {i j k : Nat} {h g : Bool} {t : Tr} {sl v : Value} {ts : List Tr}
theorem St.first (H : Par X w i h) : ∃ W,w.alloc (.cells #[.int .i64 0,.string ⟨#[]⟩,.int .i64 0,.slice none 0 0] 24) = W ∧ St X w W i h:=by
 obtain ⟨W,hW,H1,hb,_,hx⟩:=first_box H
 exact ⟨W,hW,hb,H1,hx,H.plt,H.tlt⟩
theorem St.lt (S : St X w W i h) : w.heap.size < W.heap.size:=S.box.lt
theorem St.call (S : St X w W i h) (hb : But X.P W.heap.size W W') (H : Par X W' j g) : St X w W' j g :=
  ⟨S.but.trans (hb.mono (Nat.le_of_lt S.lt)),H,S.box.later hb S.lt (by have:=S.plt; omega),S.plt,S.tlt⟩
theorem St.below (S : St X w W i h) (hb : Below W.heap.size W W') : St X w W' i h:=S.call (But.of_below hb) (S.par.below hb (Nat.le_refl _))
theorem St.alloc (S : St X w W i h) (o : Obj) : St X w (W.alloc o) i h:=S.call ((But.refl _ _ _).alloc (Nat.le_refl _) o) (S.par.alloc o)
theorem St.bad (S : St X w W i h) (hb : But X.P W.heap.size W W') (H : Par X W' j g) : OutT X w k h (.bad j) pan W' :=
  ⟨S.but.trans (hb.mono (Nat.le_of_lt S.lt)),rfl,g,H⟩
theorem St.bad0 (S : St X w W i h) : OutT X w k h (.bad i) pan W:=⟨S.but,rfl,h,S.par⟩
theorem Par.next' (H : Par X W i h) (hj : i + 1 < X.l.length) : Par X (W.setCell ⟨X.P,1,none⟩ (.int .i64 ((i : Int) + 1))) (i + 1) h:=H.next hj
theorem St.next (S : St X w W i h) (hj : i + 1 < X.l.length) : St X w (W.setCell ⟨X.P,1,none⟩ (.int .i64 ((i : Int) + 1))) (i + 1) h :=
  ⟨S.but.setCell (p:=⟨X.P,1,none⟩) (.inl rfl) _,S.par.next' hj,S.box.of_block (Below.heap_setCell _ _ _ _ (by have:=S.plt; simp only; omega)),S.plt,S.tlt⟩
/-- A tree that this walk has made. -/
def Tre (w W : World) (t : Tr) (sl : Value) : Prop:=KT W (Rg (w.heap.size + 1) W.heap.size) t sl
theorem Tre.call (T : Tre w W t sl) (S : St X w W i h) (hb : But X.P W.heap.size W W') : Tre w W' t sl :=
  KT.fr T (fun b hb' => hb.block b hb'.2 (by have:=S.plt; omega)) (fun b hb' => ⟨hb'.1,by have:=hb.size; omega⟩)
theorem Tre.below (T : Tre w W t sl) (hb : Below W.heap.size W W') : Tre w W' t sl :=
  KT.fr T (fun b hb' => hb.block b hb'.2) (fun b hb' => ⟨hb'.1,by have:=hb.size; omega⟩)
theorem Tre.alloc (T : Tre w W t sl) (o : Obj) : Tre w (W.alloc o) t sl:=T.below ((Below.refl _ _).alloc (Nat.le_refl _) o)
theorem Tre.new (S : St X w W i h) (hk : KT W' (Rg W.heap.size W'.heap.size) t sl) : Tre w W' t sl:=hk.fr (Fr.refl _ _) (fun b hb => ⟨by have:=S.lt; omega,hb.2⟩)
theorem Tre.next (T : Tre w W t sl) (S : St X w W i h) (o : Nat) (u : Value) : Tre w (W.setCell ⟨X.P,o,none⟩ u) t sl :=
  KT.fr T (fun b hb => Below.heap_setCell _ _ _ _ (by have:=S.plt; simp only; omega)) (fun b hb => ⟨hb.1,by simp; omega⟩)
/-- A leaf. -/
theorem Tre.leaf (w W : World) (k : Int) (s : List UInt8) (n : Int) (ao : Option Addr) (c : Nat) : Tre w W (.mk k s n []) (.slice ao 0 c):=by
 unfold Tre; simp only [KT]; exact ⟨[],.inl ⟨rfl,ao,c,rfl⟩,by simp [KL]⟩
/-- A list that this walk has made. -/
def Own (w W : World) (v : Value) (ts : List Tr) : Prop:=OwnL W (w.heap.size + 1) v ts
theorem Own.call (T : Own w W v ts) (S : St X w W i h) (hb : But X.P W.heap.size W W') : Own w W' v ts:=OwnL.but T hb (Nat.le_refl _) (by have:=S.plt; omega)
theorem Own.below (T : Own w W v ts) (hb : Below W.heap.size W W') : Own w W' v ts:=OwnL.below T hb (Nat.le_refl _)
theorem Own.alloc (T : Own w W v ts) (o : Obj) : Own w (W.alloc o) v ts:=T.below ((Below.refl _ _).alloc (Nat.le_refl _) o)
theorem Own.new (S : St X w W i h) (hk : OwnL W' W.heap.size v ts) : Own w W' v ts:=OwnL.wide hk (by have:=S.lt; omega)
theorem Own.tre (T : Own w W v ts) (k : Int) (s : List UInt8) (n : Int) : Tre w W (.mk k s n ts) v:=OwnL.kt T k s n
theorem Own.slice (T : Own w W v ts) : ∃ ao cap,v = .slice ao ts.length cap:=OwnL.slice T
theorem Own.made1 (S : St X w W i h) {t1 : Tr} {s1 : Value} (T1 : Tre w W t1 s1) :
    Own w (W.alloc (.cells #[.int .i64 t1.kind,.string ⟨t1.text.toArray⟩,.int .i64 t1.num,s1] 24)) (.slice (some ⟨W.heap.size,0,none⟩) 1 1) [t1] :=
  OwnL.made (ts:=[t1]) (sls:=[s1]) S.lt (by simp only [KL]; exact ⟨s1,[],rfl,T1,rfl⟩) rfl (by simp)
theorem Own.made2 (S : St X w W i h) {t1 t2 : Tr} {s1 s2 : Value} (T1 : Tre w W t1 s1) (T2 : Tre w W t2 s2) :
    Own w (W.alloc (.cells #[.int .i64 t1.kind,.string ⟨t1.text.toArray⟩,.int .i64 t1.num,s1,.int .i64 t2.kind,.string ⟨t2.text.toArray⟩,.int .i64 t2.num,s2] 24)) (.slice (some ⟨W.heap.size,0,none⟩) 2 2) [t1,t2] :=
  OwnL.made (ts:=[t1,t2]) (sls:=[s1,s2]) S.lt (by simp only [KL]; exact ⟨s1,[s2],rfl,T1,s2,[],rfl,T2,rfl⟩) rfl (by simp)
theorem Own.made3 (S : St X w W i h) {t1 t2 t3 : Tr} {s1 s2 s3 : Value} (T1 : Tre w W t1 s1) (T2 : Tre w W t2 s2) (T3 : Tre w W t3 s3) :
    Own w (W.alloc (.cells #[.int .i64 t1.kind,.string ⟨t1.text.toArray⟩,.int .i64 t1.num,s1,.int .i64 t2.kind,.string ⟨t2.text.toArray⟩,.int .i64 t2.num,s2,.int .i64 t3.kind,.string ⟨t3.text.toArray⟩,.int .i64 t3.num,s3] 24)) (.slice (some ⟨W.heap.size,0,none⟩) 3 3) [t1,t2,t3] :=
  OwnL.made (ts:=[t1,t2,t3]) (sls:=[s1,s2,s3]) S.lt (by simp only [KL]; exact ⟨s1,[s2,s3],rfl,T1,s2,[s3],rfl,T2,s3,[],rfl,T3,rfl⟩) rfl (by simp)
theorem St.done (S : St X w W j h) (T : Tre w W t sl) {Wf : World} (hput : Put w.heap.size W Wf) (hij : i < j) : OutT X w i h (.ok t j) (.returned (tv t sl)) Wf:=by
 have hp:=S.plt
 have ht:=S.tlt
 have hz:=hput.size
 exact ⟨S.but.put hput (.inr (Nat.le_refl _)),hij,S.par.put hput (by omega) (by omega),sl,rfl,KT.fr T (fun b hb => hput.block b (by omega)) (fun b hb => ⟨by omega,by omega⟩)⟩
end
theorem needR_yes {l : List Tk} {s : List UInt8} {i : Nat} (h : isM l i s = true) : needR l s i = .ok () (i + 1):=by simp [needR,h]
theorem needR_no {l : List Tk} {s : List UInt8} {i : Nat} (h : isM l i s = false) : needR l s i = .bad i:=by simp [needR,h]
theorem nameR_yes {l : List Tk} {i : Nat} (h : (kindA l i == 1) = true) : nameR l i = .ok (textA l i) (i + 1):=by simp [nameR,h]
theorem nameR_no {l : List Tk} {i : Nat} (h : (kindA l i == 1) = false) : nameR l i = .bad i:=by simp [nameR,h]
/-- What the parts that come to themselves again do, with n steps at hand. -/
structure Good (X : Px) (n : Nat) : Prop where
  typ : ∀ w i h,Par X w i h → 3 * (X.l.length - i) ≤ n → Calls Tryz.prog 168 #[X.p] w (OutT X w i h ((ps X.l n).typ i))
  bin : ∀ w i h (least : Int),Par X w i h → 1 ≤ least → least ≤ 6 → 3 * (X.l.length - i) + 1 ≤ n → Calls Tryz.prog 213 #[X.p,.int .i64 least] w (OutT X w i h ((ps X.l n).bin h least i))
  una : ∀ w i h,Par X w i h → 3 * (X.l.length - i) ≤ n → Calls Tryz.prog 214 #[X.p] w (OutT X w i h ((ps X.l n).una h i))
  blk : ∀ w i h,Par X w i h → 3 * (X.l.length - i) ≤ n → Calls Tryz.prog 103 #[X.p] w (OutT X w i h ((ps X.l n).blk i))
  ifS : ∀ w i h,Par X w i h → 3 * (X.l.length - i) + 2 ≤ n → Calls Tryz.prog 171 #[X.p] w (OutT X w i h ((ps X.l n).ifS i))
end Go.Proofs.YtffnaknidofobaaGreatDoor

namespace Go.Proofs.YtffnaknidofobaaGreatDoor
open Go.RowKit
/-- Two lists that a call has made, the second one later: the first with the second behind it. -/
theorem run_join {W : World} {B C : Nat} {v1 v2 : Value} {ts us : List Tr} (ty : TypeId) (h1 : OwnL W B v1 ts) (h2 : OwnL W C v2 us) (hBC : B ≤ C) (hC : C ≤ W.heap.size) (hv : ∀ k,v1.ownBlock = some k → k < C) (hlen : ts.length + us.length ≤ 1000000) :
    ∃ ao cap w',(Builtin.append_ #[22,22] ty #[v1,v2]).run Tryz.prog W = .ok (.slice ao (ts.length + us.length) cap) w' ∧ OwnL w' B (.slice ao (ts.length + us.length) cap) (ts ++ us) ∧ W.grownBy w' v1.ownBlock:=by
  obtain ⟨sls,o1,k1⟩:=h1
  obtain ⟨sls2,o2,k2⟩:=h2
  obtain ⟨i0,hi,hz0,hz1,hz2⟩:=info_parts Tryz.info24
  have key : ∃ v' w',(Builtin.append_ #[22,22] ty #[v1,v2]).run Tryz.prog W = .ok v' w' ∧ w'.ownsRow B 24 4 v' (ts.length + us.length) (cellsOf ts sls ++ cellsOf us sls2) ∧ W.grownBy w' v1.ownBlock ∧ (v'.ownBlock = v1.ownBlock ∨ v'.ownBlock = some W.heap.size):=by
   rcases o2.2 with ⟨rfl,e0⟩ | ⟨g,cap,cur,rfl,hb,hg,hcap,_,hsz,htk⟩
   · have hu : us = []:=List.eq_nil_of_length_eq_zero e0
     subst hu
     refine ⟨v1,W,run_append_owned_none W B 22 ty 24 i0 4 Tryz.underlying22 hi v1 _ _ o1,?_,⟨rfl,rfl,rfl,Nat.le_refl _,fun _ _ _ => rfl⟩,.inl rfl⟩
     cases sls2 with
     | nil => simpa [cellsOf] using o1
     | cons a b => simpa [cellsOf] using o1
   · have hnews : ∀ j u,(cellsOf us sls2)[j]? = some u → W.cell? ((⟨g,0,none⟩ : Addr).add j) = some u:=by
      intro j u hj
      rw [← htk] at hj
      have hj' : cur[j]? = some u:=by
       rw [List.getElem?_take] at hj
       split at hj
       · simpa using hj
       · cases hj
      have ha : (⟨g,0,none⟩ : Addr).add j = ⟨g,j,none⟩:=by cases j <;> simp [Addr.add]
      rw [ha]; simp [World.cell?,hg,hj']
     obtain ⟨v',w',hr,ho,hgr,_,hat⟩:=run_append_own_at (P:=Tryz.prog) W B 22 ty 24 i0 _ 4 56 Tryz.underlying22 hi hz0 hz1 hz2 rfl (by decide) v1 _ _ o1 ⟨g,0,none⟩ us.length cap (cellsOf us sls2) (cellsOf_length k2.length) hnews (cellsOf_one k2.one) (by unfold maxLen; omega) (by omega) (by omega)
     exact ⟨v',w',hr,ho,hgr,hat⟩
  obtain ⟨v',w',hr,ho,hgr,hat⟩:=key
  have hz:=hgr.size
  have hO : OwnL w' B v' (ts ++ us):=by
   refine ⟨sls ++ sls2,?_,KL.append (k1.fr (fun b hb => hgr.block b hb.1.2 hb.2) (fun b hb => ⟨⟨hb.1.1,by omega⟩,?_⟩)) (k2.fr (fun b hb => hgr.block b hb.1.2 (fun e => by have:=hv b e.symm; omega)) (fun b hb => ⟨⟨by omega,by omega⟩,?_⟩))⟩
   · rw [cellsOf_append k1.length,List.length_append]; exact ho
   · rcases hat with e | e
     · rw [e]; exact hb.2
     · rw [e]; intro e2; cases e2; omega
   · rcases hat with e | e
     · rw [e]; intro e2; have:=hv b e2.symm; omega
     · rw [e]; intro e2; cases e2; omega
  obtain ⟨ao,cap,e⟩:=hO.slice
  rw [List.length_append] at e
  rw [e] at hr hO
  exact ⟨ao,cap,w',hr,hO,hgr⟩
theorem wpList_join {W : World} {ops : Array Oper} {rest : List Oper} {o : Oper} {a : Act} {Q : Exit → Act → World → Prop} (hgd : o.guard = none) (s x : Operand)
    (ho : o.op = .call { callee:=.builtin .append,args:=#[s,x],argTypes:=#[22,22] }) {B C : Nat} {v1 v2 : Value} {ts us : List Tr} (hs : a.eval s = v1) (hx : a.eval x = v2)
    (h1 : OwnL W B v1 ts) (h2 : OwnL W C v2 us) (hBC : B ≤ C) (hC : C ≤ W.heap.size) (hv : ∀ k,v1.ownBlock = some k → k < C) (hlen : ts.length + us.length ≤ 1000000)
    (h : ∀ ao cap w',OwnL w' B (.slice ao (ts.length + us.length) cap) (ts ++ us) → W.grownBy w' v1.ownBlock → wpList Tryz.prog ops Q rest (a.put o.dst (.slice ao (ts.length + us.length) cap)) w') : wpList Tryz.prog ops Q (o :: rest) a W:=by
  refine wpList_plain hgd fun _ hK => ?_
  obtain ⟨ao,cap,w',hr,hO,hg⟩:=run_join o.type h1 h2 hBC hC hv hlen
  unfold Oper.wp execOp
  simp only [ho,resolve,invoke,builtin,Sem.run_bind,Sem.run_pure,Result.andThen_ok,List.map_toArray,List.map_cons,List.map_nil,hs,hx,hr]
  exact hK _ _ (h ao cap w' hO hg)
section
variable {X : Px} {w W W' : World} {i j k : Nat} {h : Bool} {t : Tr} {sl v : Value} {ts : List Tr}
theorem OwnL.lt {B : Nat} (T : OwnL W B v ts) : ∀ k,v.ownBlock = some k → B ≤ k ∧ k < W.heap.size:=by
 obtain ⟨sls,o,_⟩:=T
 exact o.lt
theorem St.grown (S : St X w W i h) {row : Option Nat} (hg : W.grownBy W' row) (hr : ∀ k,row = some k → w.heap.size + 1 ≤ k) : St X w W' i h:=by
 have h1:=S.plt
 have h2:=S.tlt
 have h3:=S.lt
 exact ⟨S.but.grown hg (by omega) (fun k hk => by have:=hr k hk; omega),S.par.grown hg (fun e => by have:=hr _ e.symm; omega) (fun e => by have:=hr _ e.symm; omega),
   S.box.of_block (hg.block _ h3 (fun e => by have:=hr _ e.symm; omega)),h1,h2⟩
/-- A tree in blocks that another list's row is not among stays when that list grows. -/
theorem Tre.grown {lo hi : Nat} (T : KT W (Rg lo hi) t sl) {row : Option Nat} (hg : W.grownBy W' row) (hr : ∀ k,row = some k → k < lo ∨ hi ≤ k) (hlo : w.heap.size + 1 ≤ lo) (hhi : hi ≤ W.heap.size) : Tre w W' t sl :=
  KT.fr T (fun b hb => hg.block b (by omega) (fun e => by have:=hr _ e.symm; omega)) (fun b hb => ⟨by omega,by have:=hg.size; omega⟩)
theorem St.doneA (S : St X w W j h) (T : Tre w W t sl) {Wf : World} (hput : Put w.heap.size W Wf) (hij : i < j) (o : Obj) : OutT X w i h (.ok t j) (.returned (tv t sl)) (Wf.alloc o):=by
 have hp:=S.plt
 have ht:=S.tlt
 have hz:=hput.size
 have hl:=S.lt
 refine ⟨(S.but.put hput (.inr (Nat.le_refl _))).alloc (by omega) o,hij,(S.par.put hput (by omega) (by omega)).alloc o,sl,rfl,KT.fr T (fun b hb => (Below.heap_alloc Wf o b (by omega)).trans (hput.block b (by omega))) (fun b hb => ⟨by omega,by simp; omega⟩)⟩
end
end Go.Proofs.YtffnaknidofobaaGreatDoor
